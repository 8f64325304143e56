/- The law ShaSchedules answers true: any block's words, or that it is none. -/
import Derived.Test.YtlikglabnfblcaaRows
import Derived.Test.YtlikglabnfblcaaSCodeS
import Derived.Test.YtlikglabnfblcaaSStr
import Derived.Deep.WholeRow
import Derived.Deep.RegionHeld3
import Derived.Deep.DeepCutAuto
import Derived.Deep.DeepFit
namespace Go.Proofs.Ytlikglabnfblcaa
open Go.RowKit

theorem bs_zero {w : World} {b : Nat} (h : Blk w b (u8s (List.replicate 128 0))) : Bs w (.slice (some ⟨b, 0, none⟩) 128 128) (List.replicate 128 0) := by
  have l : ((List.replicate 128 0) : List Int).length = 128 := List.length_replicate
  refine ⟨some ⟨b, 0, none⟩, 128, by rw [l], by decide, by rw [l]; decide, fun _ => ⟨b, 0, rfl, h.lt, fun j hj => ?_⟩⟩
  rw [Nat.zero_add]
  exact h.cell j _ (u8s_get _ j hj)
theorem byt_zero (n : Nat) : byt (List.replicate n 0) := fun j => by
  rw [getD_rep]; decide
theorem sl_form {w : World} {v : Value} {D : List Int} {n : Nat} (h : Sl w v D) (l : D.length = n) (h0 : 0 < n) : ∃ b cap, v = .slice (some ⟨b, 0, none⟩) n cap ∧ b < w.heap.size ∧ n ≤ cap ∧ cap ≤ maxLen ∧ ∀ j, j < n → w.cell? ⟨b, j, none⟩ = some (.int .u64 (D.getD j 0)) := by
  subst l
  rcases h with ⟨_, rfl⟩ | ⟨b, cap, h1, h2, h3, h4, h5⟩
  · simp at h0
  · exact ⟨b, cap, h1, h4, h2, h3, h5⟩
theorem info_z8 : (Try.prog.info? 5).map (fun i => (i.zero, i.size, i.bytes)) = some (some (.int .u8 0), 1, 1) := by kernel_rfl
theorem made_z8 (n : Nat) : madeCells #[.int .u8 0] n = (u8s (List.replicate n 0)).toArray := by
  apply Array.ext
  · simp [madeCells]
  · intro i h1 h2
    simp [madeCells, Nat.mod_one]

set_option maxRecDepth 100000 in
set_option maxHeartbeats 1000000 in
theorem scheds_ok {v : Value} {B : List Int} {w : World} (h : Bs w v B) (hB : byt B) (l : B.length = 128) :
    Calls Try.prog 4 #[v] w fun e w' => e = .returned (.bool true) ∧ Below w.heap.size w w' := by
  have bel : Below w.heap.size w w := Below.refl _ _
  have HL : Hid (B.length = 128) := l
  have HB : Hid (byt B) := hB
  clear l hB
  have hv := h
  obtain ⟨ao, cap, rfl, c1, c2, c3⟩ := h
  clear c3
  unfold maxLen at c1
  go_enter Try.func4, Try.ntmps4
  go_wp2_with fail
  refine (con_Sched hv HB.out HL.out).mono ?_
  rintro e w1 ⟨v1, rfl, s1, hb⟩
  replace s1 := s1
  obtain ⟨g1, k1, rfl, d1, d2, d3, d4⟩ := sl_form s1 (schN_len B 80) (by decide)
  have H1 : Hid _ := d4
  clear d4 s1
  unfold maxLen at d3
  replace hv := hv.later hb
  replace bel := below_step bel hb
  clear hb
  have hmk := run_make_row' 22 5 (.int .u8 0) 1 Try.underlying22 info_z8 rfl .i64 .i64 128 (by decide) (by decide) w1
  rw [made_z8] at hmk
  have BZ := Blk.new w1 (u8s (List.replicate 128 0)) 5 w1.heap.size rfl
  have bz : Below w1.heap.size w1 (w1.alloc (.cells (u8s (List.replicate 128 0)).toArray 5)) := (Below.refl _ _).alloc (Nat.le_refl _) _
  obtain ⟨WZ, hWZ⟩ : ∃ W, W = w1.alloc (.cells (u8s (List.replicate 128 0)).toArray 5) := ⟨_, rfl⟩
  rw [← hWZ] at hmk BZ bz
  replace hmk : (Instr.makeSlice 22 (.int .i64 128) (.int .i64 128)).run Try.prog w1 = .ok (.slice (some ⟨w1.heap.size, 0, none⟩) 128 128) WZ := hmk
  clear hWZ
  go_wp2_with fail
  refine (con_Sched (bs_zero BZ) (byt_zero 128) List.length_replicate).mono ?_
  rintro e w2 ⟨v2, rfl, s2, hb⟩
  obtain ⟨g2, k2, rfl, e1, e2, e3, e4⟩ := sl_form s2 (schN_len _ 80) (by decide)
  have bz2 := below_step bz hb
  replace hv := hv.later bz2
  replace bel := below_step bel bz2
  clear hb bz e4 s2 BZ hmk
  have q1 := nil_ne
  have q2 := code_eq 1
  have h128 := HL.out
  have h128i : ((B.length : Nat) : Int) = 128 := by omega
  rw [h128] at hv c2 ⊢
  go_wp2_with fail
  refine (r7_Sched hv HB.out h128).mono ?_
  rintro e w3 ⟨v3, rfl, o3, hb⟩
  obtain ⟨g3, k3, rfl, f1, f2, f3, f4⟩ := sl_form (Sl.of_own o3) (schN_len B 80) (by decide)
  have H3 : Hid _ := f4
  have H1b : Hid (∀ j, j < 80 → w3.cell? ⟨g1, j, none⟩ = some (.int .u64 ((schN B 80).getD j 0))) := fun j hj => cell_later (H1.out j hj) (bz2.trans (hb.mono bz2.size))
  replace bel := below_step bel hb
  clear hb f4 o3 H1 bz2 h128 h128i
  go_wp2_with fail
  go_loopw [8] (fun iv wx => ∃ i : Nat, i ≤ 80 ∧ iv = .int .i64 i ∧ Below w3.heap.size w3 wx) (fun iv _ => 80 - (intOf iv).toNat)
  case atStart => exact ⟨0, by omega, rfl, Below.refl _ _⟩
  case round =>
    obtain ⟨i, hi, rfl, hbx⟩ := hrel
    by_cases hil : i < 80
    · have x1 := cell_later (H1b.out i hil) hbx
      have x3 := cell_later (H3.out i hil) hbx
      obtain ⟨y, hy⟩ : ∃ y, (schN B 80).getD i 0 = y := ⟨_, rfl⟩
      rw [hy] at x1 x3
      clear hy
      have gA : (i : Int) < 80 := by omega
      have gB : (0 : Int) ≤ (i : Int) := by omega
      have gi : IntKind.i64.wrap ((i : Int) + 1) = (i : Int) + 1 := by rw [IntKind.wrap_i64]; omega
      go_upto_region 13 with fail
      go_region
      all_goals go_wp2
      all_goals go_roundw
      case rel => exact ⟨i + 1, by omega, by go_num, hbx.drew⟩
      case measure => simp [intOf]; omega
    · have gA : ¬ (i : Int) < 80 := by omega
      go_wp2
      go_ret
      exact ⟨rfl, below_step bel hbx⟩

set_option maxRecDepth 100000 in
set_option maxHeartbeats 1000000 in
theorem scheds_bad {v : Value} {B : List Int} {w : World} (h : Bs w v B) (l : ¬ B.length = 128) :
    Calls Try.prog 4 #[v] w fun e w' => e = .returned (.bool true) ∧ Below w.heap.size w w' := by
  have bel : Below w.heap.size w w := Below.refl _ _
  have HL : Hid (¬ B.length = 128) := l
  clear l
  have hv := h
  obtain ⟨ao, cap, rfl, c1, c2, c3⟩ := h
  clear c3
  unfold maxLen at c1
  go_enter Try.func4, Try.ntmps4
  go_wp2_with fail
  refine (con_SchedBad hv HL.out).mono ?_
  rintro e w1 ⟨a1, k1, rfl, hb⟩
  replace hv := hv.later hb
  replace bel := below_step bel hb
  clear hb
  have hmk := run_make_row' 22 5 (.int .u8 0) 1 Try.underlying22 info_z8 rfl .i64 .i64 128 (by decide) (by decide) w1
  rw [made_z8] at hmk
  have BZ := Blk.new w1 (u8s (List.replicate 128 0)) 5 w1.heap.size rfl
  have bz : Below w1.heap.size w1 (w1.alloc (.cells (u8s (List.replicate 128 0)).toArray 5)) := (Below.refl _ _).alloc (Nat.le_refl _) _
  obtain ⟨WZ, hWZ⟩ : ∃ W, W = w1.alloc (.cells (u8s (List.replicate 128 0)).toArray 5) := ⟨_, rfl⟩
  rw [← hWZ] at hmk BZ bz
  replace hmk : (Instr.makeSlice 22 (.int .i64 128) (.int .i64 128)).run Try.prog w1 = .ok (.slice (some ⟨w1.heap.size, 0, none⟩) 128 128) WZ := hmk
  clear hWZ
  go_wp2_with fail
  refine (con_Sched (bs_zero BZ) (byt_zero 128) List.length_replicate).mono ?_
  rintro e w2 ⟨v2, rfl, s2, hb⟩
  obtain ⟨g2, k2, rfl, e1, e2, e3, e4⟩ := sl_form s2 (schN_len _ 80) (by decide)
  have bz2 := below_step bz hb
  replace hv := hv.later bz2
  replace bel := below_step bel bz2
  clear hb bz e4 s2 BZ hmk
  have q1 := nil_ne
  have q2 := code_eq 1
  have h128 : ¬ ((B.length : Nat) : Int) = 128 := by have := HL.out; omega
  go_wp2_with fail
  go_ret
  exact ⟨rfl, bel⟩

theorem law_shaSchedules (v : Value) (B : List Int) (w : World) (h : Bs w v B) (hB : byt B) :
    Calls Try.prog 4 #[v] w fun e w' => e = .returned (.bool true) ∧ Below w.heap.size w w' := by
  by_cases l : B.length = 128
  · exact scheds_ok h hB l
  · exact scheds_bad h l

end Go.Proofs.Ytlikglabnfblcaa
