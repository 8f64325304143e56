/- The document's prime. The document's Square: Euler's criterion. -/
import Derived.Test.YtnhjaldifpiaiaaDoorRows
import Derived.Test.YtnhjaldifpiaiaaDoorFBase
import Derived.Test.YtnhjaldifpiaiaaDoorRefB
import Derived.Test.YtnhjaldifpiaiaaDoorMTo
import Derived.Test.YtnhjaldifpiaiaaDoorRDiv
namespace Go.Proofs.YtnhjaldifpiaiaaDoor
open Go.RowKit

theorem p_num (w : World) (t : TypeId) : NumIs (w.alloc (.cells (us [4294967295, 0, 0, 4294967295, 4294967294, 4294967295, 4294967295, 4294967295, 4294967295, 4294967295, 4294967295, 4294967295]).toArray t)) (.slice (some ⟨w.heap.size, 0, none⟩) 12 12) PP := by
  have B := Blk.new w (us [4294967295, 0, 0, 4294967295, 4294967294, 4294967295, 4294967295, 4294967295, 4294967295, 4294967295, 4294967295, 4294967295]) t w.heap.size rfl
  refine ⟨[4294967295, 0, 0, 4294967295, 4294967294, 4294967295, 4294967295, 4294967295, 4294967295, 4294967295, 4294967295, 4294967295], .inr ⟨w.heap.size, 12, rfl, Nat.le_refl _, by unfold maxLen; omega, B.lt, fun j hj => B.cell j _ (us_get _ j hj)⟩, ?_, ?_, ?_⟩
  · intro j
    match j with
    | 0 => decide
    | 1 => decide
    | 2 => decide
    | 3 => decide
    | 4 => decide
    | 5 => decide
    | 6 => decide
    | 7 => decide
    | 8 => decide
    | 9 => decide
    | 10 => decide
    | 11 => decide
    | _ + 12 => exact ⟨by simp, by simp⟩
  · intro _; simp
  · simp only [v32, pv]; decide

set_option maxRecDepth 100000 in
theorem p_any {w : World} :
    Calls Tryd.prog 14 #[] w fun e w' => ∃ v', e = .returned v' ∧ NumIs w' v' PP ∧ Below w.heap.size w w' := by
  have h := p_num w 22
  go_enter Tryd.func14, Tryd.ntmps14
  go_wp2
  go_ret
  exact ⟨_, rfl, h, (Below.refl _ _).alloc (Nat.le_refl _) _⟩
end Go.Proofs.YtnhjaldifpiaiaaDoor

namespace Go.Proofs.YtnhjaldifpiaiaaDoor
open Go.RowKit

/-- Euler's power -/
def Eu (X : Int) : Int := X ^ (PP / 2).toNat % PP
def sqB (X : Int) : Bool := decide (Eu X = 0 ∨ Eu X = 1)

theorem two_one (w : World) (t : TypeId) : NumIs (w.alloc (.cells (us [2]).toArray t)) (.slice (some ⟨w.heap.size, 0, none⟩) 1 1) 2 := by
  have B := Blk.new w (us [2]) t w.heap.size rfl
  refine ⟨[2], .inr ⟨w.heap.size, 1, rfl, Nat.le_refl _, by unfold maxLen; omega, B.lt, fun j hj => B.cell j _ (us_get _ j hj)⟩, ?_, ?_, ?_⟩
  · intro j
    match j with
    | 0 => decide
    | _ + 1 => exact ⟨by simp, by simp⟩
  · intro _; decide
  · rfl

theorem pp_20 : PP < 4294967296 ^ 20 := by decide

theorem long_not {d e : Int} {D : List Int} (hd : dig (d :: e :: D)) (ht : trd (d :: e :: D)) : 4294967296 ≤ v32 (d :: e :: D) := by
  have h := trd_lower _ hd ht (by simp)
  have h2 := pow32_mono 1 ((d :: e :: D).length - 1) (by simp)
  simp only [Int.pow_one] at h2
  omega

set_option maxRecDepth 100000 in
set_option maxHeartbeats 1000000 in
theorem psquare {u : Value} {X : Int} {w : World} (hu : NumIs w u X) (hX : X < 4294967296 ^ 30) :
    Calls Tryd.prog 9 #[u] w fun e w' => e = .returned (.bool (sqB X)) ∧ Below w.heap.size w w' := by
  have HX : Hid _ := hX
  clear hX
  go_enter Tryd.func9, Tryd.ntmps9
  go_wp2_with fail
  refine p_any.mono ?_
  rintro e w1 ⟨v1, rfl, h1, bel⟩
  replace hu := hu.later bel
  have N2 := two_one w1 22
  replace hu := hu.alloc (.cells (us [2]).toArray 22)
  replace h1 := h1.alloc (.cells (us [2]).toArray 22)
  replace bel := below_alloc (o := .cells (us [2]).toArray 22) bel
  go_wp2_with fail
  simp only [us, List.map_cons, List.map_nil] at N2 hu h1 bel
  generalize w1.alloc (Obj.cells #[.int .u64 2] 22) = W at *
  refine (rdiv_any _ _ _ _ _ h1 N2 pp_20 (by decide) (by decide)).mono ?_
  rintro e w2 ⟨vq, vr, rfl, hq, hr, hb⟩
  replace hu := hu.later hb
  replace bel := below_step bel hb
  clear hb h1 N2 hr
  go_wp2_with fail
  refine p_any.mono ?_
  rintro e w3 ⟨v3, rfl, h3, hb⟩
  replace hu := hu.later hb
  replace hq := hq.later hb
  replace bel := below_step bel hb
  clear hb
  go_wp2_with fail
  refine (rexp_any _ _ _ _ _ _ _ hu hq h3 HX.out (by decide) PP_pos PP_lt).mono ?_
  rintro e w4 ⟨v4, rfl, h4, hb⟩
  replace bel := below_step bel hb
  clear hb hu hq h3
  obtain ⟨D, sD, dD, tD, hD⟩ := h4
  obtain ⟨ao, cap, rfl, m1, k1, f1⟩ := sD.form
  have HD : Hid (v32 D = Eu X) := hD
  clear hD sD
  unfold maxLen at m1
  rcases D with _ | ⟨d, _ | ⟨d2, D⟩⟩
  · have HS : Hid (sqB X = true) := decide_eq_true (.inl HD.out.symm)
    clear f1 HD dD tD
    simp only [List.length_nil] at *
    go_wp2_with fail
    go_ret
    exact ⟨by rw [HS.out]; rfl, bel⟩
  · obtain ⟨b, rfl, hbl, hc⟩ := f1 (by simp)
    have c0 := hc 0 (by simp)
    simp only [List.getD_cons_zero] at c0
    have bd := dD 0
    simp only [List.getD_cons_zero] at bd
    have HE : Hid (d = Eu X) := by
      have := HD.out
      simp only [v32, pv] at this
      show _ = _
      omega
    have hne : d ≠ 0 := tD (by simp)
    clear f1 HD dD tD hc
    simp only [List.length_cons, List.length_nil, Nat.zero_add] at *
    by_cases h1 : d = 1
    · have HS : Hid (sqB X = true) := decide_eq_true (.inr (by rw [← HE.out, h1]))
      subst h1
      clear HE
      go_wp2_with fail
      go_ret
      exact ⟨by rw [HS.out]; rfl, bel⟩
    · have HS : Hid (sqB X = false) := decide_eq_false (by rw [← HE.out]; omega)
      have hq1 : (d == 1) = false := beq_eq_false_iff_ne.2 h1
      clear HE
      go_wp2_with fail
      go_ret
      exact ⟨by rw [HS.out]; rfl, bel⟩
  · have hl := long_not dD tD
    have HS : Hid (sqB X = false) := decide_eq_false (by rw [← HD.out]; omega)
    obtain ⟨n, hn⟩ : ∃ n, (d :: d2 :: D).length = n + 2 := ⟨D.length, rfl⟩
    rw [hn] at k1 ⊢
    clear f1 HD dD tD hl hn
    have g0 : ¬ ((n : Int) + 2 = 0) := by omega
    have g1 : ¬ ((n : Int) + 2 = 1) := by omega
    go_wp2_with fail
    go_ret
    exact ⟨by rw [HS.out]; rfl, bel⟩
end Go.Proofs.YtnhjaldifpiaiaaDoor
