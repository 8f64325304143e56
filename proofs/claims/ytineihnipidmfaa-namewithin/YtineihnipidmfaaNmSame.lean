/- The law's same: are two names the same? -/
import Derived.Test.YtineihnipidmfaaRows
import Derived.Test.YtineihnipidmfaaNmBase
import Derived.Test.YtineihnipidmfaaNmSm0
import Derived.BigQuiet
import Derived.Deep.WholeRow
import Derived.Deep.RegionHeld3
import Derived.Deep.DeepCutAuto
import Derived.Deep.DeepFit
namespace Go.Proofs.Ytineihnipidmfaa
open Go.RowKit

set_option linter.unusedSimpArgs false in
set_option maxRecDepth 100000 in
set_option maxHeartbeats 1000000 in
theorem con_same16 {v u : Value} {n m : List Pn} {w : World} (hn : NmAt w v n) (hm : NmAt w u m) (wn : WfN n) (wm : WfN m) :
    Calls Try.prog 14 #[v, u] w fun e w' => e = .returned (.bool (decide (n = m))) ∧ Below w.heap.size w w' := by
  have HN : Hid (NmAt w v n) := hn
  have HM : Hid (NmAt w u m) := hm
  obtain ⟨a1, c1, rfl, -, -, -⟩ := hn
  obtain ⟨a2, c2, rfl, -, -, -⟩ := hm
  have hl1 : Hid (n.length ≤ 9223372036854775807) := by obtain ⟨_, c, e, h1, h2, _⟩ := HN.out; show _ ≤ _; simp only [maxLen] at h2; omega
  go_enter Try.func14, Try.ntmps14
  by_cases hl : n.length = m.length
  rotate_left
  · have H : Hid (decide (n = m) = false) := decide_eq_false (fun h => hl (by rw [h]))
    have g1 : ((n.length : Int) == (m.length : Int)) = false := by rw [beq_eq_false_iff_ne]; omega
    have g2 : ((n.length : Int) != (m.length : Int)) = true := by rw [bne, g1]; rfl
    clear hl
    go_wp2_with fail
    go_ret
    exact ⟨by rw [H.out]; rfl, Below.refl _ _⟩
  obtain ⟨L, hL⟩ : ∃ L, n.length = L := ⟨_, rfl⟩
  have HL : Hid (n.length = L) := hL
  have HL2 : Hid (m.length = L) := by show _ = _; rw [← hL, hl]
  rw [hL] at HN ⊢
  rw [HL2.out] at HM ⊢
  have g1 : ((L : Int) == (L : Int)) = true := beq_self_eq_true _
  have g2 : ((L : Int) != (L : Int)) = false := by rw [bne, g1]; rfl
  clear hl hL
  go_wp2_with fail
  clear g1 g2
  go_loopw [5] (fun iv wx => ∃ i : Nat, i ≤ L ∧ iv = .int .i64 (i : Int) ∧ Hid (n.take i = m.take i) ∧ Below w.heap.size w wx) (fun iv _ => L - (intOf iv).toNat)
  case atStart => exact ⟨0, by omega, rfl, rfl, Below.refl _ _⟩
  case round =>
    obtain ⟨i, hi, rfl, HT, bel⟩ := hrel
    by_cases hil : i < L
    · have g1 : (i : Int) < (L : Int) := by omega
      have g2 : (0 : Int) ≤ (i : Int) := by omega
      have gi : IntKind.i64.wrap ((i : Int) + 1) = (i : Int) + 1 := by have := hl1.out; rw [HL.out] at this; rw [IntKind.wrap_i64]; omega
      obtain ⟨p, b1, o1, hp, e1, -, l1, x0, x1⟩ := (HN.out.later bel).at (i := i) (by rw [HL.out]; exact hil)
      obtain ⟨q, b2, o2, hq, e2, -, l2, y0, y1⟩ := (HM.out.later bel).at (i := i) (by rw [HL2.out]; exact hil)
      subst e1 e2
      have q5 := eqN (wn i p hp).2.1 (wm i q hq).2.1
      have HS : Hid (n.take (i + 1) = m.take (i + 1) ↔ p = q) := take_one HT.out hp hq
      have HPQ : Hid (n[i]? = some p ∧ m[i]? = some q) := ⟨hp, hq⟩
      obtain ⟨k1, s1⟩ := p
      obtain ⟨k2, s2⟩ := q
      simp only at x0 x1 y0 y1 q5
      clear hp hq
      by_cases hpq : (k1, s1) = (k2, s2)
      · rw [decide_eq_true hpq] at q5
        have HT2 : Hid (n.take (i + 1) = m.take (i + 1)) := HS.out.2 hpq
        clear hpq
        go_wp2_with fail
        go_quiet (fail)
        go_wp2_with fail
        go_roundw
        case rel => exact ⟨i + 1, by omega, by go_num, HT2, below_dN bel _⟩
        case measure => simp [intOf]; omega
      · rw [decide_eq_false hpq] at q5
        have H : Hid (decide (n = m) = false) := decide_eq_false (fun h => hpq (by have h1 := HPQ.out.1; have h2 := HPQ.out.2; rw [h, h2] at h1; exact (Option.some.inj h1).symm))
        clear hpq
        go_wp2_with fail
        go_quiet (fail)
        go_wp2_with fail
        go_ret
        exact ⟨by rw [H.out]; rfl, below_dN bel _⟩
    · have g1 : ¬ (i : Int) < (L : Int) := by omega
      have HI : Hid (i = L) := by show _ = _; omega
      have H : Hid (decide (n = m) = true) := decide_eq_true (by have h := HT.out; rw [HI.out, List.take_of_length_le (by rw [HL.out]; exact Nat.le_refl _), List.take_of_length_le (by rw [HL2.out]; exact Nat.le_refl _)] at h; exact h)
      go_wp2_with fail
      go_ret
      exact ⟨by rw [H.out]; rfl, bel⟩
end Go.Proofs.Ytineihnipidmfaa
