/- The reference's Cmp. -/
import Derived.Test.YtflnfjekapngkaaDoorRows
import Derived.Test.YtflnfjekapngkaaDoorNum
import Derived.Deep.QuietTactic
import Derived.BigQuiet
namespace Go.Proofs.YtflnfjekapngkaaDoor
open Go.RowKit

def cmpN (X Y : Int) : Int := if X < Y then -1 else if X = Y then 0 else 1

theorem cmpN_lt {X Y : Int} (h : X < Y) : (-1 : Int) = cmpN X Y := by simp [cmpN, h]
theorem cmpN_eq {X Y : Int} (h : X = Y) : (0 : Int) = cmpN X Y := by simp [cmpN, h]
theorem cmpN_gt {X Y : Int} (h : Y < X) : (1 : Int) = cmpN X Y := by
  unfold cmpN; rw [if_neg (by omega), if_neg (by omega)]

set_option maxRecDepth 100000 in
set_option maxHeartbeats 1000000 in
theorem cmp_any (u v : Value) (X Y : Int) (w : World) (hu : NumIs w u X) (hv : NumIs w v Y) :
    Calls Tryd.prog 24 #[u, v] w fun e w' => e = .returned (.int .i64 (cmpN X Y)) ∧ Below w.heap.size w w' := by
  obtain ⟨D, sD, dD, tD, rfl⟩ := hu
  obtain ⟨E, sE, dE, tE, rfl⟩ := hv
  obtain ⟨ao, c1, rfl, m1, k1, f1⟩ := sD.form
  obtain ⟨bo, c2, rfl, m2, k2, f2⟩ := sE.form
  have sh1 := v32_short D E dD dE tE
  have sh2 := v32_short E D dE dD tD
  obtain ⟨l, hl⟩ : ∃ l, D.length = l := ⟨_, rfl⟩
  obtain ⟨m, hm⟩ : ∃ m, E.length = m := ⟨_, rfl⟩
  unfold maxLen at m1 m2
  clear sD sE
  obtain ⟨X, hX⟩ : ∃ X, v32 D = X := ⟨_, rfl⟩
  obtain ⟨Y, hY⟩ : ∃ Y, v32 E = Y := ⟨_, rfl⟩
  rw [hX, hY]
  rw [hX, hY] at sh1 sh2
  rw [hl, hm] at sh1
  rw [hm, hl] at sh2
  by_cases hlm : l < m
  · have H : Hid _ := cmpN_lt (sh1 hlm)
    rw [hl, hm]
    clear sh1 sh2 f1 f2 hX hY
    have g1 : ((l : Int) != (m : Int)) = true := by simp; omega
    have g2 : (l : Int) < (m : Int) := by omega
    go_enter Tryd.func24, Tryd.ntmps24
    go_wp2
    go_ret
    exact ⟨ret_int H.out, Below.refl _ _⟩
  · by_cases hml : m < l
    · have H : Hid _ := cmpN_gt (sh2 hml)
      rw [hl, hm]
      clear sh1 sh2 f1 f2 hX hY
      have g1 : ((l : Int) != (m : Int)) = true := by simp; omega
      have g2 : ¬ (l : Int) < (m : Int) := by omega
      go_enter Tryd.func24, Tryd.ntmps24
      go_wp2
      go_ret
      exact ⟨ret_int H.out, Below.refl _ _⟩
    · have hE : m = l := by omega
      subst hE
      rw [hl] at f1 ⊢
      rw [hm] at f2 ⊢
      clear sh1 sh2
      have g1 : ((m : Int) != (m : Int)) = false := by simp
      have HL : Hid (D.length = m ∧ E.length = m) := ⟨hl, hm⟩
      have HX : Hid (v32 D = X ∧ v32 E = Y) := ⟨hX, hY⟩
      clear hX hY
      rw [hl] at k1
      rw [hm] at k2
      clear hl hm
      go_enter Tryd.func24, Tryd.ntmps24
      go_wp2
      go_loopw [5] (fun i wr => ∃ k : Nat, k ≤ m ∧ i = .int .i64 ((k : Int) - 1) ∧ Hid (D.drop k = E.drop k) ∧ ∃ n, wr = w.drewN n)
        (fun i _ => (intOf i + 1).toNat)
      case atStart => exact ⟨m, Nat.le_refl _, rfl, by show _ = _; rw [List.drop_of_length_le (by rw [HL.out.1]; exact Nat.le_refl _), List.drop_of_length_le (by rw [HL.out.2]; exact Nat.le_refl _)], 0, rfl⟩
      case round =>
        obtain ⟨k, hk, rfl, HD, n, rfl⟩ := hrel
        by_cases hk0 : k = 0
        · have H : Hid _ := cmpN_eq (show X = Y by rw [← HX.out.1, ← HX.out.2]; have := HD.out; rw [hk0] at this; simp at this; rw [this])
          have g2 : ¬ (0 : Int) ≤ (k : Int) - 1 := by omega
          go_wp2
          go_ret
          exact ⟨ret_int H.out, below_dN (Below.refl _ _) _⟩
        · obtain ⟨b1, rfl, hb1, hc1⟩ := f1 (by omega)
          obtain ⟨b2, rfl, hb2, hc2⟩ := f2 (by omega)
          clear f1 f2
          obtain ⟨d, hd⟩ : ∃ d, D.getD (k - 1) 0 = d := ⟨_, rfl⟩
          obtain ⟨e, he⟩ : ∃ e, E.getD (k - 1) 0 = e := ⟨_, rfl⟩
          have x1 := hc1 (k - 1) (by omega)
          have x2 := hc2 (k - 1) (by omega)
          rw [hd] at x1
          rw [he] at x2
          have hD : Hid (D.drop (k - 1 + 1) = E.drop (k - 1 + 1)) := by rw [show k - 1 + 1 = k by omega]; exact HD
          have L1 : Hid (d < e → X < Y) := fun h => by rw [← HX.out.1, ← HX.out.2]; exact v32_less D E (k - 1) dD dE (by rw [HL.out.1]; omega) (by rw [HL.out.2]; omega) hD.out (by rw [hd, he]; exact h)
          have L2 : Hid (e < d → Y < X) := fun h => by rw [← HX.out.1, ← HX.out.2]; exact v32_less E D (k - 1) dE dD (by rw [HL.out.2]; omega) (by rw [HL.out.1]; omega) hD.out.symm (by rw [hd, he]; exact h)
          have L3 : Hid (d = e → D.drop (k - 1) = E.drop (k - 1)) := fun h => by
            have e1 := List.drop_eq_getElem_cons (l := D) (i := k - 1) (by rw [HL.out.1]; omega)
            have e2 := List.drop_eq_getElem_cons (l := E) (i := k - 1) (by rw [HL.out.2]; omega)
            rw [e1, e2, hD.out]
            congr 1
            rw [List.getD_eq_getElem?_getD, List.getElem?_eq_getElem (by rw [HL.out.1]; omega)] at hd
            rw [List.getD_eq_getElem?_getD, List.getElem?_eq_getElem (by rw [HL.out.2]; omega)] at he
            simp at hd he
            rw [hd, he, h]
          clear hd he hc1 hc2
          have g2 : (0 : Int) ≤ (k : Int) - 1 := by omega
          have g3 : (k : Int) - 1 < (m : Int) := by omega
          have g4 : ((k : Int) - 1).toNat = k - 1 := by omega
          by_cases hde : d < e
          · have H : Hid _ := cmpN_lt (L1.out hde)
            go_wp2
            go_quiet (fail)
            go_wp2
            go_ret
            exact ⟨ret_int H.out, below_dN (below_dN (Below.refl _ _) _) _⟩
          · by_cases hed : e < d
            · have H : Hid _ := cmpN_gt (L2.out hed)
              go_wp2
              go_quiet (fail)
              go_wp2
              go_quiet (fail)
              go_wp2
              go_ret
              exact ⟨ret_int H.out, below_dN (below_dN (below_dN (Below.refl _ _) _) _) _⟩
            · have hq : d = e := by omega
              go_wp2
              go_quiet (fail)
              go_wp2
              go_quiet (fail)
              go_wp2
              go_roundw
              case rel => exact ⟨k - 1, by omega, by congr 1; omega, L3.out hq, _, rfl⟩
              case measure => simp [intOf]; omega
end Go.Proofs.YtflnfjekapngkaaDoor
