/- The law AesKeys answers true: any key's round keys, or that it is none; it stays. -/
import Derived.Test.YtlamngilmkaliaaRows
import Derived.Test.YtlamngilmkaliaaAeCodeK
import Derived.Test.YtlamngilmkaliaaAeKeys
import Derived.Test.YtlamngilmkaliaaEqB
import Derived.Test.YtlamngilmkaliaaSStr
import Derived.Test.YtlamngilmkaliaaShape
import Derived.Test.YtlamngilmkaliaaTakeRow
import Derived.Deep.WholeRow
import Derived.Deep.RegionHeld3
import Derived.Deep.DeepCutAuto
import Derived.Deep.DeepFit
namespace Go.Proofs.Ytlamngilmkaliaa
open Go.RowKit

theorem row_key {w : World} {g i : Nat} {K : List Int} {F : List Value} (hF : u8s (keyN K i) = F) (_ : i < 15) (h : ∀ k, k < 16 → w.cell? ⟨g, 16 * i + k, none⟩ = some (.int .u8 ((keyN K i).getD k 0))) : ∀ j v, F[j]? = some v → w.cell? ⟨g, i * 16 + j, none⟩ = some v := by
  intro j v hv
  subst hF
  have hj : j < 16 := by
    have := (List.getElem?_eq_some_iff.1 hv).1
    simpa [keyN_len] using this
  rw [u8s_get _ j (by rw [keyN_len]; exact hj)] at hv
  rw [← hv, Nat.mul_comm]
  exact h j hj

set_option linter.unusedSimpArgs false in
set_option maxRecDepth 100000 in
set_option maxHeartbeats 4000000 in
theorem keys_bad {kv : Value} {K : List Int} {w : World} (hk : Bs w kv K) (bK : byt K) (hre : K.length ≤ 140737488351232) (HL : Hid (¬ K.length = 32)) :
    Calls Try.prog 7 #[kv] w fun e w' => e = .returned (.bool true) ∧ Below w.heap.size w w' := by
  have HKb : Hid (byt K) := bK
  clear bK
  have bel : Below w.heap.size w w := Below.refl _ _
  have hmk := run_make_row' 29 5 (.int .u8 0) 1 Try.underlying29 info_bA rfl .i64 .i64 32 (by decide) (by decide) w
  rw [made_zero] at hmk
  have BZ := Blk.new w (u8s (List.replicate 32 0)) 5 w.heap.size rfl
  have bz : Below w.heap.size w (w.alloc (.cells (u8s (List.replicate 32 0)).toArray 5)) := (Below.refl _ _).alloc (Nat.le_refl _) _
  obtain ⟨WZ, hWZ⟩ : ∃ W, W = w.alloc (.cells (u8s (List.replicate 32 0)).toArray 5) := ⟨_, rfl⟩
  rw [← hWZ] at hmk BZ bz
  replace hmk : (Instr.makeSlice 29 (.int .i64 32) (.int .i64 32)).run Try.prog w = .ok (.slice (some ⟨w.heap.size, 0, none⟩) 32 32) WZ := hmk
  clear hWZ
  have hk0 := hk
  obtain ⟨ao, cap, rfl, c1, c2, c3⟩ := hk0
  clear c3
  unfold maxLen at c1
  go_enter Try.func7, Try.ntmps7
  go_wp2_with fail
  refine (con_Keys (BZ.bs List.length_replicate (by decide)) (byt_rep 32) List.length_replicate).mono ?_
  rintro e w1 ⟨v1, rfl, ⟨g1, k1, rfl, d1, d2, d3, d4⟩, hb⟩
  replace bel := below_step bz hb
  replace hk := hk.later bel
  clear d4 d3 hb bz BZ hmk
  unfold maxLen at d2
  have own1 := own_made w1 [] 5 0 w1.heap.size rfl (Nat.le_refl _) (by decide)
  have hs1 := hk.later ((Below.refl _ _).alloc (Nat.le_refl _) (.cells #[] 5))
  go_upto_region 3 with (first | (at_builtin; refine wpList_append_bs (by rfl) _ _ (by rfl) w1.heap.size _ 0 [] (by rfl) own1 _ K (by rfl) hs1 (by omega) (by simp) ?_; intro v2 w2 own2 hgrow hat) | fail)
  have hb2 := below_own (base := w1.heap.size) ((Below.refl w1.heap.size w1).alloc (Nat.le_refl _) (.cells #[] 5)) hgrow (by simp) (fun g hg => own_geA own1 hg) (Nat.le_refl _)
  have h2 := Bs.of_own own2
  rw [List.nil_append] at h2
  replace hk := hk.later hb2
  replace bel := below_step bel hb2
  clear hgrow hat own1 own2 hs1 hb2
  have h20 := h2
  obtain ⟨a2, k2, rfl, e1, e2, e3⟩ := h20
  clear e3
  unfold maxLen at e1
  go_wp2_with fail
  refine (con_KeysBad h2 HL.out).mono ?_
  rintro e w3 ⟨a3, k3, rfl, hb⟩
  replace hk := hk.later hb
  replace h2 := h2.later hb
  replace bel := below_step bel hb
  clear hb
  have q1 := nil_ne
  have q2 := code_eq 1
  have x1 := conv_any hk
  have x2 := conv_any h2
  have g32 : ¬ ((K.length : Nat) : Int) = 32 := by have := HL.out; omega
  go_wp2_with fail
  go_ret
  exact ⟨rfl, bel⟩
set_option linter.unusedSimpArgs false in
set_option maxRecDepth 100000 in
set_option maxHeartbeats 4000000 in
theorem keys_ok {kv : Value} {K : List Int} {w : World} (hk : Bs w kv K) (bK : byt K) (hre : K.length ≤ 140737488351232) (HL : Hid (K.length = 32)) :
    Calls Try.prog 7 #[kv] w fun e w' => e = .returned (.bool true) ∧ Below w.heap.size w w' := by
  have HKb : Hid (byt K) := bK
  clear bK
  have bel : Below w.heap.size w w := Below.refl _ _
  have hmk := run_make_row' 29 5 (.int .u8 0) 1 Try.underlying29 info_bA rfl .i64 .i64 32 (by decide) (by decide) w
  rw [made_zero] at hmk
  have BZ := Blk.new w (u8s (List.replicate 32 0)) 5 w.heap.size rfl
  have bz : Below w.heap.size w (w.alloc (.cells (u8s (List.replicate 32 0)).toArray 5)) := (Below.refl _ _).alloc (Nat.le_refl _) _
  obtain ⟨WZ, hWZ⟩ : ∃ W, W = w.alloc (.cells (u8s (List.replicate 32 0)).toArray 5) := ⟨_, rfl⟩
  rw [← hWZ] at hmk BZ bz
  replace hmk : (Instr.makeSlice 29 (.int .i64 32) (.int .i64 32)).run Try.prog w = .ok (.slice (some ⟨w.heap.size, 0, none⟩) 32 32) WZ := hmk
  clear hWZ
  have hk0 := hk
  obtain ⟨ao, cap, rfl, c1, c2, c3⟩ := hk0
  clear c3
  unfold maxLen at c1
  go_enter Try.func7, Try.ntmps7
  go_wp2_with fail
  refine (con_Keys (BZ.bs List.length_replicate (by decide)) (byt_rep 32) List.length_replicate).mono ?_
  rintro e w1 ⟨v1, rfl, ⟨g1, k1, rfl, d1, d2, d3, d4⟩, hb⟩
  replace bel := below_step bz hb
  replace hk := hk.later bel
  clear d4 d3 hb bz BZ hmk
  unfold maxLen at d2
  have own1 := own_made w1 [] 5 0 w1.heap.size rfl (Nat.le_refl _) (by decide)
  have hs1 := hk.later ((Below.refl _ _).alloc (Nat.le_refl _) (.cells #[] 5))
  go_upto_region 3 with (first | (at_builtin; refine wpList_append_bs (by rfl) _ _ (by rfl) w1.heap.size _ 0 [] (by rfl) own1 _ K (by rfl) hs1 (by omega) (by simp) ?_; intro v2 w2 own2 hgrow hat) | fail)
  have hb2 := below_own (base := w1.heap.size) ((Below.refl w1.heap.size w1).alloc (Nat.le_refl _) (.cells #[] 5)) hgrow (by simp) (fun g hg => own_geA own1 hg) (Nat.le_refl _)
  have h2 := Bs.of_own own2
  rw [List.nil_append] at h2
  replace hk := hk.later hb2
  replace bel := below_step bel hb2
  clear hgrow hat own1 own2 hs1 hb2
  have h20 := h2
  obtain ⟨a2, k2, rfl, e1, e2, e3⟩ := h20
  clear e3
  unfold maxLen at e1
  go_wp2_with fail
  refine (con_Keys h2 HKb.out HL.out).mono ?_
  rintro e w3 ⟨v3, rfl, ⟨g3, k3, rfl, f1, f2, f3, f4⟩, hb⟩
  have HC3 : Hid _ := f4
  clear f4
  unfold maxLen at f2
  replace hk := hk.later hb
  replace h2 := h2.later hb
  replace bel := below_step bel hb
  clear hb
  have q1 := nil_ne
  have q2 := code_eq 1
  have x1 := conv_any hk
  have x2 := conv_any h2
  have g32 : ((K.length : Nat) : Int) = 32 := by have := HL.out; omega
  go_wp2_with fail
  clear g32
  refine r9_Box.mono ?_
  rintro e w4 ⟨v4, rfl, own4, hb⟩
  replace hk := hk.later hb
  replace bel := below_step bel hb
  replace HC3 : Hid (∀ i k, i < 15 → k < 16 → w4.cell? ⟨g3, 16 * i + k, none⟩ = some (.int .u8 ((keyN K i).getD k 0))) := fun i k hi hk => (hb.cell (p := ⟨g3, 16 * i + k, none⟩) f3).trans (HC3.out i k hi hk)
  replace f3 : g3 < w4.heap.size := Nat.lt_of_lt_of_le f3 hb.size
  have bx := Bs.of_own own4
  clear hb own4 x1 x2 h2
  go_wp2_with fail
  refine (r9_Keys bx hk HKb.out HL.out).mono ?_
  rintro e w5 ⟨v5, rfl, ⟨g5, k5, rfl, h1, h2, h3, h4⟩, hb⟩
  have HC5 : Hid _ := h4
  clear h4
  unfold maxLen at h2
  replace bel := below_step bel hb
  replace HC3 : Hid (∀ i k, i < 15 → k < 16 → w5.cell? ⟨g3, 16 * i + k, none⟩ = some (.int .u8 ((keyN K i).getD k 0))) := fun i k hi hk => (hb.cell (p := ⟨g3, 16 * i + k, none⟩) f3).trans (HC3.out i k hi hk)
  have f3w : g3 < w5.heap.size := Nat.lt_of_lt_of_le f3 hb.size
  clear hb bx hk
  go_wp2_with fail
  go_loopw [9] (fun iv wx => ∃ i : Nat, i ≤ 15 ∧ iv = .int .i64 i ∧ Below w5.heap.size w5 wx) (fun iv _ => 15 - (intOf iv).toNat)
  case atStart => exact ⟨0, by omega, rfl, Below.refl _ _⟩
  case round =>
    obtain ⟨i, hi, rfl, hbx⟩ := hrel
    by_cases hil : i < 15
    · have gA : (i : Int) < 15 := by omega
      have gB : (0 : Int) ≤ (i : Int) := by omega
      have gi : IntKind.i64.wrap ((i : Int) + 1) = (i : Int) + 1 := by rw [IntKind.wrap_i64]; omega
      obtain ⟨F, hF⟩ : ∃ F, u8s (keyN K i) = F := ⟨_, rfl⟩
      have HF : Hid (u8s (keyN K i) = F) := hF
      have HFl : Hid (F.length = 16) := by rw [← hF, List.length_map]; exact keyN_len K i
      clear hF
      have bw : Below wr.heap.size wr wr := Below.refl _ _
      go_upto_region 14 with fail
      obtain ⟨S1, hS1, KL1, KA1, KD1, KS1, KQ1, KN1, KB1, KM1, KR1⟩ := held3 (w0 := w5) (W := wr) [] (by intro b X h; simp at h) hbx
      clear KS1 KQ1 KN1 KM1 KR1 KA1 KL1
      have r3 : Hid (∀ wx, Hd S1 wx → (loadVar 26 ⟨g3, i * 16, none⟩).run Try.prog wx = .ok (.agg F.toArray) wx) := fun wx h => load_cells (row_key HF.out hil (fun k hk => ((KB1.out wx h).cell (p := ⟨g3, 16 * i + k, none⟩) f3w).trans (HC3.out i k hil hk))) HFl.out Try.underlying26 rfl size_16
      have r5 : Hid (∀ wx, Hd S1 wx → (loadVar 26 ⟨g5, i * 16, none⟩).run Try.prog wx = .ok (.agg F.toArray) wx) := fun wx h => load_cells (row_key HF.out hil (fun k hk => ((KB1.out wx h).cell (p := ⟨g5, 16 * i + k, none⟩) h3).trans (HC5.out i k hil hk))) HFl.out Try.underlying26 rfl size_16
      have q3 : ∀ w : World, (Op.equalIn 10000 26 (.agg F.toArray) (.agg F.toArray)).run Try.prog w = .ok true w := by
        rw [← HF.out]
        intro w
        rw [eql_16 (keyN_len K i) (keyN_len K i) w, decide_eq_true rfl]
      refine wp_region_noPanic ?_
      refine wp_region_held_drew (S := Hd S1) (by kernel_rfl) (KD1.out _ hS1) (fun hHeld => ?_)
      clear hS1
      generalize World.drew _ = wd at *
      refine wpAnyH_take (i := 0) (v := ?_) rfl (by kernel_rfl) (by kernel_rfl) (by kernel_rfl) (fun _ _ _ h => h) (Or.inl ⟨by rfl, ?_⟩) (by assumption) ?_
      rotate_left
      · intro w hSw
        go_simp
        with_reducible rfl
      try simp only [Act.put, List.getElem_toArray, List.getElem_cons_zero, List.getElem_cons_succ, List.setIfInBounds_toArray, List.set_cons_zero, List.set_cons_succ]
      refine wpAnyH_take (i := 1) (v := ?_) rfl (by kernel_rfl) (by kernel_rfl) (by kernel_rfl) (fun _ _ _ h => h) (Or.inl ⟨by rfl, ?_⟩) (by assumption) ?_
      rotate_left
      · intro w hSw
        go_simp
        with_reducible rfl
      try simp only [Act.put, List.getElem_toArray, List.getElem_cons_zero, List.getElem_cons_succ, List.setIfInBounds_toArray, List.set_cons_zero, List.set_cons_succ]
      refine wpAnyH_take (i := 2) (v := ?_) rfl (by kernel_rfl) (by kernel_rfl) (by kernel_rfl) (fun _ _ _ h => h) (Or.inl ⟨by rfl, ?_⟩) (by assumption) ?_
      rotate_left
      · intro w hSw
        go_simp
        with_reducible rfl
      try simp only [Act.put, List.getElem_toArray, List.getElem_cons_zero, List.getElem_cons_succ, List.setIfInBounds_toArray, List.set_cons_zero, List.set_cons_succ]
      refine wpAnyH_take (i := 3) (v := .agg F.toArray) rfl (by kernel_rfl) (by kernel_rfl) (by kernel_rfl) (fun _ _ _ h => h) (Or.inl ⟨by rfl, fun wx h => exec_load rfl rfl (r3.out wx h)⟩) (by assumption) ?_
      try simp only [Act.put, List.getElem_toArray, List.getElem_cons_zero, List.getElem_cons_succ, List.setIfInBounds_toArray, List.set_cons_zero, List.set_cons_succ]
      refine wpAnyH_take (i := 4) (v := ?_) rfl (by kernel_rfl) (by kernel_rfl) (by kernel_rfl) (fun _ _ _ h => h) (Or.inl ⟨by rfl, ?_⟩) (by assumption) ?_
      rotate_left
      · intro w hSw
        go_simp
        with_reducible rfl
      try simp only [Act.put, List.getElem_toArray, List.getElem_cons_zero, List.getElem_cons_succ, List.setIfInBounds_toArray, List.set_cons_zero, List.set_cons_succ]
      refine wpAnyH_take (i := 5) (v := ?_) rfl (by kernel_rfl) (by kernel_rfl) (by kernel_rfl) (fun _ _ _ h => h) (Or.inl ⟨by rfl, ?_⟩) (by assumption) ?_
      rotate_left
      · intro w hSw
        go_simp
        with_reducible rfl
      try simp only [Act.put, List.getElem_toArray, List.getElem_cons_zero, List.getElem_cons_succ, List.setIfInBounds_toArray, List.set_cons_zero, List.set_cons_succ]
      refine wpAnyH_take (i := 6) (v := ?_) rfl (by kernel_rfl) (by kernel_rfl) (by kernel_rfl) (fun _ _ _ h => h) (Or.inl ⟨by rfl, ?_⟩) (by assumption) ?_
      rotate_left
      · intro w hSw
        go_simp
        with_reducible rfl
      try simp only [Act.put, List.getElem_toArray, List.getElem_cons_zero, List.getElem_cons_succ, List.setIfInBounds_toArray, List.set_cons_zero, List.set_cons_succ]
      refine wpAnyH_take (i := 7) (v := .agg F.toArray) rfl (by kernel_rfl) (by kernel_rfl) (by kernel_rfl) (fun _ _ _ h => h) (Or.inl ⟨by rfl, fun wx h => exec_load rfl rfl (r5.out wx h)⟩) (by assumption) ?_
      try simp only [Act.put, List.getElem_toArray, List.getElem_cons_zero, List.getElem_cons_succ, List.setIfInBounds_toArray, List.set_cons_zero, List.set_cons_succ]
      refine wpAnyH_take (i := 8) (v := ?_) rfl (by kernel_rfl) (by kernel_rfl) (by kernel_rfl) (fun _ _ _ h => h) (Or.inl ⟨by rfl, ?_⟩) (by assumption) ?_
      rotate_left
      · intro w hSw
        go_simp
        with_reducible rfl
      try simp only [Act.put, List.getElem_toArray, List.getElem_cons_zero, List.getElem_cons_succ, List.setIfInBounds_toArray, List.set_cons_zero, List.set_cons_succ]
      refine wpAnyH_done (by kernel_rfl) ?_ _
      refine NoPanic.normal ?_
      have hb9 := KB1.out _ hHeld
      clear hHeld KB1 KD1 r3 r5 q3
      go_wp2_with fail
      go_roundw
      case rel => exact ⟨i + 1, by omega, by go_num, hb9⟩
      case measure => simp [intOf]; omega
    · have gA : ¬ (i : Int) < 15 := by omega
      go_wp2_with fail
      go_ret
      exact ⟨rfl, below_step bel hbx⟩
theorem law_aesKeys (kv : Value) (K : List Int) (w : World) (hk : Bs w kv K) (bK : byt K) (hre : K.length ≤ 140737488351232) :
    Calls Try.prog 7 #[kv] w fun e w' => e = .returned (.bool true) ∧ Below w.heap.size w w' := by
  by_cases h : K.length = 32
  · exact keys_ok hk bK hre h
  · exact keys_bad hk bK hre h
end Go.Proofs.Ytlamngilmkaliaa
