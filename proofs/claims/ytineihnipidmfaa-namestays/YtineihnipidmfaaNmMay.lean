/- The law's may: is something a name? -/
import Derived.Test.YtineihnipidmfaaRows
import Derived.Test.YtineihnipidmfaaNmMay0
import Derived.Test.YtineihnipidmfaaNmConv
import Derived.Test.YtineihnipidmfaaNmSame
import Derived.Test.YtineihnipidmfaaPmText
import Derived.BigQuiet
import Derived.Deep.WholeRow
import Derived.Deep.RegionHeld3
import Derived.Deep.DeepCutAuto
import Derived.Deep.DeepFit
namespace Go.Proofs.Ytineihnipidmfaa
open Go.RowKit

set_option linter.unusedSimpArgs false in
set_option maxRecDepth 100000 in
set_option maxHeartbeats 1000000 in
theorem con_may16 {v : Value} {n : List Pn} {w : World} (hn : NmAt w v n) (wn : WfN n) :
    Calls Try.prog 10 #[v] w fun e w' => e = .returned (.bool (mayN n)) ∧ Below w.heap.size w w' := by
  have HN : Hid (NmAt w v n) := hn
  obtain ⟨a1, c1, rfl, -, -, -⟩ := hn
  obtain ⟨L, hL⟩ : ∃ L, n.length = L := ⟨_, rfl⟩
  have HL : Hid (n.length = L) := hL
  rw [hL] at HN ⊢
  clear hL
  go_enter Try.func10, Try.ntmps10
  by_cases h8 : 8 < L
  · have g1 : (8 : Int) < (L : Int) := by omega
    have H : Hid (mayN n = false) := by show _ = _; unfold mayN; rw [HL.out, decide_eq_false (by omega)]; rfl
    go_wp2_with fail
    go_ret
    exact ⟨by rw [H.out]; rfl, Below.refl _ _⟩
  have g1 : ¬ (8 : Int) < (L : Int) := by omega
  have HM : Hid (mayN n = n.all partN) := by show _ = _; unfold mayN; rw [HL.out, decide_eq_true (by omega), Bool.true_and]
  go_wp2_with fail
  clear g1
  go_loopw [3] (fun iv wx => ∃ i : Nat, i ≤ L ∧ iv = .int .i64 (i : Int) ∧ Hid (n.all partN = (n.drop i).all partN) ∧ Below w.heap.size w wx) (fun iv _ => L - (intOf iv).toNat)
  case atStart => exact ⟨0, by omega, rfl, rfl, Below.refl _ _⟩
  case round =>
    obtain ⟨i, hi, rfl, HT, bel⟩ := hrel
    by_cases hil : i < L
    · have g1 : (i : Int) < (L : Int) := by omega
      have g2 : (0 : Int) ≤ (i : Int) := by omega
      have gi : IntKind.i64.wrap ((i : Int) + 1) = (i : Int) + 1 := by rw [IntKind.wrap_i64]; omega
      obtain ⟨p, b1, o1, hp, e1, -, l1, x0, x1⟩ := (HN.out.later bel).at (i := i) (by rw [HL.out]; exact hil)
      subst e1
      have hw := wn i p hp
      have HS : Hid _ := all_drop hp
      obtain ⟨k1, s1⟩ := p
      simp only at x0 x1 hw
      have HP : Hid (partN (k1, s1) = (kindN k1 && textB s1)) := rfl
      obtain ⟨cap, w2, hcv, hbs, hb⟩ := conv_text hw.2.1 hw.2.2 wr
      have HBs : Hid (Bs w2 (.slice (some ⟨wr.heap.size, 0, none⟩) s1.length cap) s1) := hbs
      have y0 : w2.cell? ⟨b1, o1 + i * 2, none⟩ = some (.int .i64 k1) := (hb.cell (p := ⟨b1, o1 + i * 2, none⟩) l1).trans x0
      have l2 : b1 < w2.heap.size := Nat.lt_of_lt_of_le l1 hb.size
      have bel2 := below_step bel hb
      have hby := hw.2.1
      clear hp hbs hb hw
      go_wp2_with fail
      refine (r13_Text HBs.out hby).mono ?_
      rintro e w3 ⟨hok, hbad⟩
      have HX : Hid (∃ (tv : ByteArray) (c : Int), e = .returned (.tuple #[.string tv, .int .i64 c]) ∧ w3 = w2 ∧ (textB s1 = true ∧ c = 0 ∨ textB s1 = false ∧ ¬ c = 0)) := by
        cases ht : textP s1 with
        | ok m =>
          obtain ⟨rfl, rfl⟩ := hok m ht
          exact ⟨_, 0, rfl, rfl, .inl ⟨by unfold textB; rw [ht], rfl⟩⟩
        | error c =>
          obtain ⟨rfl, rfl⟩ := hbad c ht
          exact ⟨_, _, rfl, rfl, .inr ⟨by unfold textB; rw [ht], by rcases text_err ht with rfl | rfl <;> decide⟩⟩
      obtain ⟨tv, c, rfl, hw3, hcase⟩ := HX.out
      rw [hw3]
      clear hok hbad HX hw3 hcv x0 x1
      go_wp2_with fail
      refine con_kind16.mono ?_
      rintro e w4 ⟨rfl, hw4⟩
      rw [hw4]
      clear hw4
      cases hk : kindN k1 with
      | false =>
        have H : Hid (mayN n = false) := by show _ = _; rw [HM.out, HT.out, HS.out, HP.out, hk]; rfl
        clear hk
        go_wp2_with fail
        go_ret
        exact ⟨by rw [H.out]; rfl, bel2⟩
      | true =>
        rcases hcase with ⟨ht, rfl⟩ | ⟨ht, hc⟩
        · have HT2 : Hid (n.all partN = (n.drop (i + 1)).all partN) := by show _ = _; rw [HT.out, HS.out, HP.out, hk, ht]; rfl
          clear hk ht
          go_wp2_with fail
          go_roundw
          case rel => exact ⟨i + 1, by omega, by go_num, HT2, bel2⟩
          case measure => simp [intOf]; omega
        · have H : Hid (mayN n = false) := by show _ = _; rw [HM.out, HT.out, HS.out, HP.out, hk, ht]; rfl
          have g5 : (c == 0) = false := by rw [beq_eq_false_iff_ne]; exact hc
          have g6 : (c != 0) = true := by rw [bne, g5]; rfl
          clear hk ht hc
          go_wp2_with fail
          go_ret
          exact ⟨by rw [H.out]; rfl, bel2⟩
    · have g1 : ¬ (i : Int) < (L : Int) := by omega
      have H : Hid (mayN n = true) := by show _ = _; rw [HM.out, HT.out, List.drop_of_length_le (by rw [HL.out]; omega)]; rfl
      go_wp2_with fail
      go_ret
      exact ⟨by rw [H.out]; rfl, bel⟩
end Go.Proofs.Ytineihnipidmfaa
