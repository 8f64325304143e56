/- The document's Write of elements. -/
import Derived.Test.YtnkipgbnnhahbaaDrBytes
import Derived.Test.YtnkipgbnnhahbaaDrFine
import Derived.Test.YtnkipgbnnhahbaaDrRef
import Derived.Test.YtnkipgbnnhahbaaClOpt
import Derived.Test.YtnkipgbnnhahbaaRows
import Derived.Deep.OwnRows
import Derived.Deep.AppendLies
import Derived.Deep.WholeRow
import Derived.Deep.RegionHeld3
import Derived.Deep.DeepCutAuto
import Derived.Deep.DeepFit
namespace Go.Proofs.Ytnkipgbnnhahbaa
open Go.RowKit
set_option linter.unusedSimpArgs false in
set_option maxRecDepth 100000 in
set_option maxHeartbeats 2000000 in
theorem r12_Write {T : Tl} {cs : List Value} {w : World} (hz : szT T ≤ 4611686018427387904) (hl : Hid (fineT T = true → (bytesT T).length ≤ 1099511627776)) (h : TlAt w T cs) :
    Calls Try.prog 15 #[.agg cs.toArray] w fun e w' => ∃ v' : Value, e = .returned (.tuple #[v', .int .i64 ((wrN T : Nat) : Int)]) ∧ (wrN T = 0 → w'.ownsRow w.heap.size 5 1 v' (bytesT T).length (u8s (bytesT T))) ∧ (¬ wrN T = 0 → v' = .slice none 0 0) ∧ Below w.heap.size w w' := by
  obtain ⟨c, t, m, b, ks⟩ := T
  have h0 := h
  rw [TlAt] at h
  obtain ⟨bv, ao, cap, hcs, hbv, hk1, hk2, hk3⟩ := h
  obtain ⟨bao, bcap, rfl, hb1, hb2, hb3⟩ := hbv
  subst hcs
  clear hk1 hk2 hk3 hb1 hb2 hb3
  have B0 := Blk.new w [.int .i64 c, .int .i64 t, .bool m, .slice bao b.length bcap, .slice ao ks.length cap] 42 w.heap.size rfl
  have bel : Below w.heap.size w (w.alloc (.cells #[.int .i64 c, .int .i64 t, .bool m, .slice bao b.length bcap, .slice ao ks.length cap] 42)) := (Below.refl _ _).alloc (Nat.le_refl _) _
  have H0 : Hid (TlAt (w.alloc (.cells #[.int .i64 c, .int .i64 t, .bool m, .slice bao b.length bcap, .slice ao ks.length cap] 42)) (.mk c t m b ks) [.int .i64 c, .int .i64 t, .bool m, .slice bao b.length bcap, .slice ao ks.length cap]) := h0.later bel
  clear h0
  obtain ⟨T, hT⟩ : ∃ T, T = Tl.mk c t m b ks := ⟨_, rfl⟩
  rw [← hT] at H0 hz hl ⊢
  clear hT
  go_enter Try.func15, Try.ntmps15
  go_upto_region 1 with fail
  generalize w.alloc (Obj.cells #[.int .i64 c, .int .i64 t, .bool m, .slice bao b.length bcap, .slice ao ks.length cap] 42) = W at *
  have hld := B0.load (P := Try.prog) Try.underlying42 rfl size_tlv rfl
  have lt0 := B0.lt
  go_wp2_with (first | (refine wpList_load_run (by rfl) (by rfl) (by rfl) hld ?_) | fail)
  refine (r12_fine (szT T) T _ _ (Nat.le_refl _) H0.out).mono ?_
  rintro e w2 ⟨rfl, hb9⟩
  replace B0 := B0.later hb9
  replace H0 : Hid _ := H0.out.later hb9
  replace bel := below_stepD bel hb9
  clear hb9 hld lt0
  by_cases hf : fineT T = true
  rotate_left
  · replace hf : fineT T = false := by cases hq : fineT T with
      | true => exact absurd hq hf
      | false => rfl
    have HW : Hid (wrN T = 1) := by show _ = _; unfold wrN; rw [hf]; rfl
    rw [hf]
    go_wp2_with fail
    refine bodyPost_ret (results_tmp2 rfl _ _ _) rfl ?_
    exact ⟨_, by rw [HW.out]; rfl, fun h => absurd (HW.out.symm.trans h) (by decide), fun _ => rfl, bel⟩
  have HF : Hid (fineT T = true) := hf
  rw [hf]
  clear hf
  have hld := B0.load (P := Try.prog) Try.underlying42 rfl size_tlv rfl
  have lt0 := B0.lt
  go_wp2_with (first | (refine wpList_load_run (by rfl) (by rfl) (by rfl) hld ?_) | fail)
  refine (r12_Depth (szT T) T _ _ (Nat.le_refl _) hz H0.out).mono ?_
  rintro e w3 ⟨rfl, hb9⟩
  replace B0 := B0.later hb9
  replace H0 : Hid _ := H0.out.later hb9
  replace bel := below_stepD bel hb9
  clear hb9 hld lt0
  have hds := depT_sz T
  obtain ⟨d, hd⟩ : ∃ d, depT T = d := ⟨_, rfl⟩
  rw [hd] at hds ⊢
  have HD : Hid (depT T = d) := hd
  clear hd
  by_cases hd1 : 16 < d
  · have g1 : (16 : Int) < (d : Int) := by omega
    have HW : Hid (wrN T = 9) := by show _ = _; unfold wrN; rw [if_pos HF.out, HD.out, if_pos hd1]
    go_wp2_with fail
    refine bodyPost_ret (results_tmp2 rfl _ _ _) rfl ?_
    exact ⟨_, by rw [HW.out]; rfl, fun h => absurd (HW.out.symm.trans h) (by decide), fun _ => rfl, bel⟩
  have g1 : ¬ (16 : Int) < (d : Int) := by omega
  have hld := B0.load (P := Try.prog) Try.underlying42 rfl size_tlv rfl
  have lt0 := B0.lt
  go_wp2_with (first | (refine wpList_load_run (by rfl) (by rfl) (by rfl) hld ?_) | fail)
  refine (r12_bytes (szT T) T _ _ (Nat.le_refl _) HF.out (hl.out HF.out) H0.out).mono ?_
  rintro e w4 ⟨v4, rfl, own, hb9⟩
  have own4 := own_lowerD own (Nat.le_trans (Nat.le_of_lt lt0) (Nat.le_refl _) |> fun h => bel.size)
  replace B0 := B0.later hb9
  replace H0 : Hid _ := H0.out.later hb9
  replace bel := below_stepD bel hb9
  clear hb9 hld lt0
  obtain ⟨N, hN⟩ : ∃ N, (bytesT T).length = N := ⟨_, rfl⟩
  have hN40 := hl.out HF.out
  rw [hN] at own own4 hN40
  clear own
  obtain ⟨hao, hcap, hhv, hc1, hc2⟩ := own_slice own4
  subst hhv
  by_cases hn1 : 1048576 < N
  · have g2 : (1048576 : Int) < (N : Int) := by omega
    have HW : Hid (wrN T = 2) := by show _ = _; unfold wrN; rw [if_pos HF.out, HD.out, if_neg hd1, hN, if_pos hn1]
    clear hN own4
    go_wp2_with fail
    refine bodyPost_ret (results_tmp2 rfl _ _ _) rfl ?_
    exact ⟨_, by rw [HW.out]; rfl, fun h => absurd (HW.out.symm.trans h) (by decide), fun _ => rfl, bel⟩
  have g2 : ¬ (1048576 : Int) < (N : Int) := by omega
  have HW : Hid (wrN T = 0) := by show _ = _; unfold wrN; rw [if_pos HF.out, HD.out, if_neg hd1, hN, if_neg hn1]
  have HN : Hid ((bytesT T).length = N) := hN
  clear hN
  go_wp2_with fail
  refine bodyPost_ret (results_tmp2 rfl _ _ _) rfl ?_
  exact ⟨_, by rw [HW.out]; rfl, fun _ => by rw [HN.out]; exact own4, fun h => absurd HW.out h, bel⟩
end Go.Proofs.Ytnkipgbnnhahbaa
