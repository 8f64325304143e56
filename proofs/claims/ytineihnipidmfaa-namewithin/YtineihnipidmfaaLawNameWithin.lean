/- The law NameWithin. -/
import Derived.Test.YtineihnipidmfaaRows
import Derived.Test.YtineihnipidmfaaNmUp
import Derived.Test.YtineihnipidmfaaNmSame
import Derived.Test.YtineihnipidmfaaNlEq
import Derived.Deep.OwnRows
import Derived.Deep.AppendLies
import Derived.Great.BuildSlice
import Derived.Laws.Rows
import Derived.BigQuiet
import Derived.Deep.WholeRow
import Derived.Deep.RegionHeld3
import Derived.Deep.DeepCutAuto
import Derived.Deep.DeepFit
namespace Go.Proofs.Ytineihnipidmfaa
open Go.RowKit

/-- within, so far -/
def WiS (n m : List Pn) (i : Nat) (b : Bool) : Prop := (b = true → m.length ≤ n.length ∧ n.take i = m.take i) ∧ (b = false → ¬ n.take m.length = m)
theorem WiS.next {n m : List Pn} {i : Nat} {p q : Pn} (h : WiS n m i true) (hp : n[i]? = some p) (hq : m[i]? = some q) : WiS n m (i + 1) (decide (p = q)) := by
  refine ⟨fun e => ⟨(h.1 rfl).1, (take_one (h.1 rfl).2 hp hq).2 (of_decide_eq_true e)⟩, fun e k => ?_⟩
  refine of_decide_eq_false e ?_
  have hi := (List.getElem?_eq_some_iff.1 hq).1
  have h1 : (n.take m.length)[i]? = some p := by rw [List.getElem?_take, if_pos hi]; exact hp
  rw [k, hq] at h1
  exact (Option.some.inj h1).symm
set_option linter.unusedSimpArgs false in
set_option maxRecDepth 100000 in
set_option maxHeartbeats 2000000 in
theorem law_nameWithin {v u : Value} {n m : List Pn} {w : World} (hn : NmAt w v n) (wn : WfN n) (hm : NmAt w u m) (wm : WfN m) :
    Calls Try.prog 5 #[v, u] w fun e w' => e = .returned (.bool true) ∧ Below w.heap.size w w' := by
  have HN : Hid (NmAt w v n) := hn
  have HM : Hid (NmAt w u m) := hm
  obtain ⟨a1, c1, rfl, -, -, -⟩ := hn
  obtain ⟨a2, c2, rfl, -, -, -⟩ := hm
  have hl1 : Hid (n.length ≤ 9223372036854775807) := by obtain ⟨_, c, e, h1, h2, _⟩ := HN.out; show _ ≤ _; simp only [maxLen] at h2; omega
  have hl2 : Hid (m.length ≤ 9223372036854775807) := by obtain ⟨_, c, e, h1, h2, _⟩ := HM.out; show _ ≤ _; simp only [maxLen] at h2; omega
  obtain ⟨A, hA⟩ : ∃ A, n.length = A := ⟨_, rfl⟩
  obtain ⟨M, hM⟩ : ∃ M, m.length = M := ⟨_, rfl⟩
  have HA : Hid (n.length = A) := hA
  have HB : Hid (m.length = M) := hM
  rw [hA] at HN ⊢
  rw [hM] at HM ⊢
  clear hA hM
  go_enter Try.func5, Try.ntmps5
  go_wp2_with fail
  refine con_up16.mono ?_
  rintro e w1 ⟨rfl, bel⟩
  obtain ⟨bb, hbb⟩ : ∃ bb : Bool, decide (M ≤ A) = bb := ⟨_, rfl⟩
  have gb : decide ((M : Int) ≤ (A : Int)) = bb := by rw [← hbb]; exact decide_eq_decide.2 (by omega)
  have HS : Hid (WiS n m 0 bb) := by
    refine ⟨fun h => ⟨by rw [h] at hbb; have := of_decide_eq_true hbb; rw [HA.out, HB.out]; exact this, rfl⟩, fun h k => ?_⟩
    rw [h] at hbb
    have h1 := of_decide_eq_false hbb
    have h2 := congrArg List.length k
    rw [List.length_take, HA.out, HB.out] at h2
    omega
  have HBB : Hid (decide (M ≤ A) = bb) := hbb
  clear hbb
  go_wp2_with fail
  clear gb
  go_loopw [6, 7] (fun bv iv wx => ∃ (i : Nat) (b : Bool), i ≤ M ∧ iv = .int .i64 (i : Int) ∧ bv = .bool b ∧ Hid (WiS n m i b) ∧ Below w.heap.size w wx) (fun _ iv _ => M - (intOf iv).toNat)
  case atStart => exact ⟨0, bb, by omega, rfl, by first | rfl | exact congrArg Value.bool HBB.out, HS, bel⟩
  case round =>
    clear HS bel
    obtain ⟨i, b, hi, rfl, rfl, HS, bel⟩ := hrel
    by_cases hil : i < M ∧ b = true
    · obtain ⟨hil, rfl⟩ := hil
      have g1 : (i : Int) < (M : Int) := by omega
      have g2 : (0 : Int) ≤ (i : Int) := by omega
      have gi : IntKind.i64.wrap ((i : Int) + 1) = (i : Int) + 1 := by have := hl2.out; rw [HB.out] at this; rw [IntKind.wrap_i64]; omega
      have hle := (HS.out.1 rfl).1
      rw [HA.out, HB.out] at hle
      have g3 : (i : Int) < (A : Int) := by omega
      obtain ⟨p, b1, o1, hp, e1, -, l1, x0, x1⟩ := (HN.out.later bel).at (i := i) (by rw [HA.out]; omega)
      obtain ⟨q, b2, o2, hq, e2, -, l2, y0, y1⟩ := (HM.out.later bel).at (i := i) (by rw [HB.out]; exact hil)
      subst e1 e2
      have q5 := eqN (wn i p hp).2.1 (wm i q hq).2.1
      have HS2 : Hid (WiS n m (i + 1) (decide (p = q))) := WiS.next HS.out hp hq
      obtain ⟨k1, s1⟩ := p
      obtain ⟨k2, s2⟩ := q
      simp only at x0 x1 y0 y1 q5
      obtain ⟨bq, hbq⟩ : ∃ b, decide ((k1, s1) = (k2, s2)) = b := ⟨_, rfl⟩
      rw [hbq] at q5 HS2
      clear hp hq hbq
      go_wp2_with fail
      go_quiet (fail)
      go_wp2_with fail
      go_roundw
      case rel => exact ⟨i + 1, bq, by omega, by go_num, rfl, HS2, below_dN bel _⟩
      case measure => simp [intOf]; omega
    · have HD : Hid (decide (n.take m.length = m) = b) := by
        cases b with
        | true =>
          have hM : i = M := by
            by_cases h : i < M
            · exact absurd ⟨h, rfl⟩ hil
            · omega
          refine decide_eq_true ?_
          have h := (HS.out.1 rfl).2
          rw [hM, ← HB.out, List.take_of_length_le (Nat.le_refl m.length)] at h
          exact h
        | false => exact decide_eq_false (HS.out.2 rfl)
      obtain ⟨c, hc⟩ : ∃ c, decide (n = m) = c := ⟨_, rfl⟩
      have HC : Hid (decide (n = m) = c) := hc
      clear hc
      have gx : (b == b) = true := by cases b <;> rfl
      by_cases hi2 : i < M
      · have g1 : (i : Int) < (M : Int) := by omega
        obtain rfl : b = false := by cases b with
          | false => rfl
          | true => exact absurd ⟨hi2, rfl⟩ hil
        clear hil
        go_wp2_with fail
        refine (con_NWithin (HN.out.later bel) (HM.out.later bel) wn wm).mono ?_
        rintro e w2 ⟨rfl, hb⟩
        rw [HD.out]
        replace bel := below_step bel hb
        clear hb
        go_wp2_with fail
        refine (con_NSame (HN.out.later bel) (HM.out.later bel) wn wm).mono ?_
        rintro e w3 ⟨rfl, hb⟩
        rw [HC.out]
        replace bel := below_step bel hb
        clear hb
        go_wp2_with fail
        refine (con_same16 (HN.out.later bel) (HM.out.later bel) wn wm).mono ?_
        rintro e w4 ⟨rfl, hb⟩
        rw [HC.out]
        replace bel := below_step bel hb
        clear hb
        have gc : (c == c) = true := by cases c <;> rfl
        go_wp2_with fail
        refine (con_NWithin (HN.out.later bel) (HN.out.later bel) wn wn).mono ?_
        rintro e w5 ⟨rfl, hb⟩
        rw [decide_eq_true (List.take_of_length_le (Nat.le_refl n.length))]
        replace bel := below_step bel hb
        clear hb gc
        go_wp2_with fail
        refine (con_NSame (HM.out.later bel) (HM.out.later bel) wm wm).mono ?_
        rintro e w6 ⟨rfl, hb⟩
        rw [decide_eq_true rfl]
        replace bel := below_step bel hb
        clear hb
        go_wp2_with fail
        refine (con_NWithin (HN.out.later bel) (NmAt.nil0 _) wn (fun i p hp => by simp at hp)).mono ?_
        rintro e w7 ⟨rfl, hb⟩
        rw [decide_eq_true (show n.take ([] : List Pn).length = [] by simp)]
        replace bel := below_step bel hb
        clear hb
        go_wp2_with fail
        go_ret
        exact ⟨rfl, bel⟩
      · have g1 : ¬ (i : Int) < (M : Int) := by omega
        clear hil
        go_wp2_with fail
        refine (con_NWithin (HN.out.later bel) (HM.out.later bel) wn wm).mono ?_
        rintro e w2 ⟨rfl, hb⟩
        rw [HD.out]
        replace bel := below_step bel hb
        clear hb
        go_wp2_with fail
        refine (con_NSame (HN.out.later bel) (HM.out.later bel) wn wm).mono ?_
        rintro e w3 ⟨rfl, hb⟩
        rw [HC.out]
        replace bel := below_step bel hb
        clear hb
        go_wp2_with fail
        refine (con_same16 (HN.out.later bel) (HM.out.later bel) wn wm).mono ?_
        rintro e w4 ⟨rfl, hb⟩
        rw [HC.out]
        replace bel := below_step bel hb
        clear hb
        have gc : (c == c) = true := by cases c <;> rfl
        go_wp2_with fail
        refine (con_NWithin (HN.out.later bel) (HN.out.later bel) wn wn).mono ?_
        rintro e w5 ⟨rfl, hb⟩
        rw [decide_eq_true (List.take_of_length_le (Nat.le_refl n.length))]
        replace bel := below_step bel hb
        clear hb gc
        go_wp2_with fail
        refine (con_NSame (HM.out.later bel) (HM.out.later bel) wm wm).mono ?_
        rintro e w6 ⟨rfl, hb⟩
        rw [decide_eq_true rfl]
        replace bel := below_step bel hb
        clear hb
        go_wp2_with fail
        refine (con_NWithin (HN.out.later bel) (NmAt.nil0 _) wn (fun i p hp => by simp at hp)).mono ?_
        rintro e w7 ⟨rfl, hb⟩
        rw [decide_eq_true (show n.take ([] : List Pn).length = [] by simp)]
        replace bel := below_step bel hb
        clear hb
        go_wp2_with fail
        go_ret
        exact ⟨rfl, bel⟩
end Go.Proofs.Ytineihnipidmfaa
