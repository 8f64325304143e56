/- The document's Light of elements. -/
import Derived.Test.YtineihnipidmfaaRows
import Derived.Test.YtineihnipidmfaaDrTG
import Derived.Deep.WholeRow
import Derived.Deep.RegionHeld3
import Derived.Deep.DeepCutAuto
import Derived.Deep.DeepFit
namespace Go.Proofs.Ytineihnipidmfaa
open Go.RowKit

set_option linter.unusedSimpArgs false in
set_option maxRecDepth 100000 in
set_option maxHeartbeats 4000000 in
theorem r12_Light (n : Nat) : ∀ (T : Tl) (l : Int) (d : Nat) (w : World) (cs : List Value), szT T ≤ n → (0 ≤ l ∧ l ≤ 1000000) → d ≤ 1000000 → TlAt w T cs →
    Calls Try.prog 15 #[.agg cs.toArray, .int .i64 l, .int .i64 (d : Int)] w fun e w' => e = .returned (.int .i64 (litT T l d)) ∧ Below w.heap.size w w' := by
  induction n with
  | zero => intro T l d w cs hz _ _; have := szT_pos T; omega
  | succ n IH =>
    intro T l d w cs hz hl hd h
    obtain ⟨c, t, m, b, ks⟩ := T
    have h0 := h
    rw [TlAt] at h
    obtain ⟨bv, ao, cap, rfl, hbv, hk1, hk2, hk3⟩ := h
    have HK : Hid (0 < ks.length → ∃ g o, ao = some ⟨g, o, none⟩ ∧ KidsAt w ks g o) := hk3
    clear hk3 h0
    unfold maxLen at hk2
    obtain ⟨bao, bcap, rfl, hb1, hb2, hb3⟩ := hbv
    clear hb3
    unfold maxLen at hb1
    have B0 := Blk.new w [.int .i64 c, .int .i64 t, .bool m, .slice bao b.length bcap, .slice ao ks.length cap] 28 w.heap.size rfl
    have bel : Below w.heap.size w (w.alloc (.cells #[.int .i64 c, .int .i64 t, .bool m, .slice bao b.length bcap, .slice ao ks.length cap] 28)) := (Below.refl _ _).alloc (Nat.le_refl _) _
    rw [szT] at hz
    have e3 := B0.cell 3 _ rfl
    have e4 := B0.cell 4 _ rfl
    have lt0 := B0.lt
    have HF : Hid (litT (.mk c t m b ks) l d = if d = 0 ∨ l - 1 - (b.length : Int) < 0 then -1 else litL ks (l - 1 - (b.length : Int)) (d - 1)) := by show _ = _; rw [litT]
    have a1 : IntKind.i64.wrap (l - 1) = l - 1 := by rw [IntKind.wrap_i64]; omega
    obtain ⟨q, hq⟩ : ∃ q, l - 1 - (b.length : Int) = q := ⟨_, rfl⟩
    have a2 : IntKind.i64.wrap (l - 1 - (b.length : Int)) = q := by rw [IntKind.wrap_i64]; omega
    have hq1 : q < l := by omega
    rw [hq] at HF
    clear hq
    go_enter Try.func15, Try.ntmps15
    go_upto_region 1 with fail
    generalize w.alloc (Obj.cells #[.int .i64 c, .int .i64 t, .bool m, .slice bao b.length bcap, .slice ao ks.length cap] 28) = W at *
    by_cases hd0 : d = 0
    · subst hd0
      go_wp2_with fail
      go_ret
      exact ⟨by rw [HF.out, if_pos (by simp)]; rfl, bel⟩
    have d1 : ¬ (d : Int) = 0 := by omega
    have d2 : IntKind.i64.wrap ((d : Int) - 1) = ((d - 1 : Nat) : Int) := by rw [IntKind.wrap_i64]; omega
    by_cases hq0 : q < 0
    · go_wp2_with fail
      go_ret
      exact ⟨by rw [HF.out, if_pos (.inr (by omega))]; rfl, bel⟩
    replace HF : Hid (litT (.mk c t m b ks) l d = litL ks q (d - 1)) := by show _ = _; rw [HF.out, if_neg (by omega)]
    go_wp2_with fail
    go_loopw [1, 7] (fun lv iv wx => ∃ (i : Nat) (x : Int), i ≤ ks.length ∧ iv = .int .i64 i ∧ lv = .int .i64 x ∧ 0 ≤ x ∧ x ≤ q ∧ Hid (litL ks q (d - 1) = litL (ks.drop i) x (d - 1)) ∧ Blk wx w.heap.size [.int .i64 c, .int .i64 t, .bool m, .slice bao b.length bcap, .slice ao ks.length cap] ∧ Below w.heap.size w wx) (fun _ iv _ => ks.length - (intOf iv).toNat)
    case atStart => exact ⟨0, q, by omega, rfl, rfl, by omega, by omega, rfl, B0, bel⟩
    case round =>
      clear B0 bel lt0 e3 e4
      obtain ⟨i, x, hi, rfl, rfl, x0, xq, HL, B0, bel⟩ := hrel
      have e4 := B0.cell 4 _ rfl
      have lt0 := B0.lt
      by_cases hil : i < ks.length
      · have g1 : (i : Int) < (ks.length : Int) := by omega
        have g2 : (0 : Int) ≤ (i : Int) := by omega
        have gi : IntKind.i64.wrap ((i : Int) + 1) = (i : Int) + 1 := by rw [IntKind.wrap_i64]; omega
        obtain ⟨k, hkk⟩ := get_kid hil
        obtain ⟨g, o, hao, hks⟩ := HK.out (by omega)
        obtain ⟨cs, hcs, hkt⟩ := hks.get hkk
        have hsz := szL_get hkk
        replace hcs := hcs.later bel
        replace hkt := hkt.later bel
        have hld := tlv_load hcs hkt.five
        have hld2 := hld
        rw [Nat.mul_comm 5 i] at hld2
        subst hao
        have HN : Hid _ := litL_drop hkk x (d - 1)
        go_wp2_with (first | (refine wpList_load_run (by rfl) (by rfl) (by rfl) hld ?_) | (refine wpList_load_run (by rfl) (by rfl) (by rfl) hld2 ?_) | fail)
        refine (IH k x (d - 1) _ _ (by omega) (by omega) (by omega) hkt).mono ?_
        rintro e w2 ⟨rfl, hb2⟩
        replace B0 := B0.later hb2
        replace bel := below_stepD bel hb2
        clear hb2 hld hld2 hcs hkt e4 lt0
        have hle := litT_le k x (d - 1)
        obtain ⟨y, hy⟩ : ∃ y, litT k x (d - 1) = y := ⟨_, rfl⟩
        rw [hy] at HN hle ⊢
        clear hy
        by_cases hy0 : y < 0
        · go_wp2_with fail
          go_ret
          exact ⟨by rw [HF.out, HL.out, HN.out, if_pos (by omega)]; rfl, bel⟩
        · go_wp2_with fail
          go_roundw
          case rel => exact ⟨i + 1, y, by omega, by go_num, rfl, by omega, by omega, by show _ = _; rw [HL.out, HN.out, if_neg (by omega)], B0, bel⟩
          case measure => simp [intOf]; omega
      · have HI : Hid (i = ks.length) := by show i = ks.length; omega
        have g1 : ¬ (i : Int) < (ks.length : Int) := by omega
        go_wp2_with fail
        go_ret
        exact ⟨by rw [HF.out, HL.out, HI.out, List.drop_of_length_le (Nat.le_refl _), litL]; rfl, bel⟩
end Go.Proofs.Ytineihnipidmfaa
