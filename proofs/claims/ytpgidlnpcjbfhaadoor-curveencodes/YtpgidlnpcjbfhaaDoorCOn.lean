/- The document's Inv and On. -/
import Derived.Test.YtpgidlnpcjbfhaaDoorRows
import Derived.Test.YtpgidlnpcjbfhaaDoorCPt
import Derived.Test.YtpgidlnpcjbfhaaDoorFLaw
import Derived.Test.YtpgidlnpcjbfhaaDoorRExp
import Derived.Test.YtpgidlnpcjbfhaaDoorRefA
import Derived.Test.YtpgidlnpcjbfhaaDoorEqPt
import Derived.Deep.WholeRow
import Derived.Deep.RegionHeld3
import Derived.Deep.DeepCutAuto
import Derived.Deep.DeepFit
namespace Go.Proofs.YtpgidlnpcjbfhaaDoor
open Go.RowKit

theorem pinv_is {X : Int} : X ^ (PP - 2).toNat % PP = pinv X := by
  unfold pinv
  rw [show (PP - 2).toNat = 39402006196394479212279040100143613805079739270465446667948293404245721771496870329047266088258938001861606973112317 from by decide +kernel]

theorem pinv_lo (X : Int) : Lo (pinv X) := by unfold pinv; exact lo_emod _

theorem e_40 : PP - 2 < 4294967296 ^ 40 := by decide +kernel

set_option maxRecDepth 100000 in
set_option maxHeartbeats 400000 in
theorem r3_Inv {u : Value} {X : Int} {w : World} (hu : NumIs w u X) (hX : X < 4294967296 ^ 30) :
    Calls Tryd.prog 50 #[u] w fun e w' => ∃ v', e = .returned v' ∧ NumIs w' v' (pinv X) ∧ Below w.heap.size w w' := by
  have HX : Hid _ := hX
  clear hX
  go_enter Tryd.func50, Tryd.ntmps50
  go_wp2_with fail
  refine p_any.mono ?_
  rintro e w1 ⟨v1, rfl, h1, bel⟩
  replace hu := hu.later bel
  have N2 := two_dig w1 22
  replace hu := hu.alloc (.cells #[.int .u64 2] 22)
  replace h1 := h1.alloc (.cells #[.int .u64 2] 22)
  replace bel := below_alloc (o := .cells #[.int .u64 2] 22) bel
  go_wp2_with fail
  generalize w1.alloc (Obj.cells #[.int .u64 2] 22) = W at *
  refine (rsub_any _ _ _ _ _ h1 N2 pp_30 (by decide)).mono ?_
  rintro e w2 ⟨v2, rfl, h2, hb⟩
  replace hu := hu.later hb
  replace bel := below_step bel hb
  clear hb h1 N2
  go_wp2_with fail
  refine p_any.mono ?_
  rintro e w3 ⟨v3, rfl, h3, hb⟩
  replace hu := hu.later hb
  replace h2 := h2.later hb
  replace bel := below_step bel hb
  clear hb
  go_wp2_with fail
  refine (rexp_any _ _ _ _ _ _ _ hu h2 h3 HX.out e_40 PP_pos PP_lt).mono ?_
  rintro e w4 ⟨v4, rfl, h4, hb⟩
  rw [pinv_is] at h4
  replace bel := below_step bel hb
  clear hb
  go_wp2_with fail
  go_ret
  exact ⟨_, rfl, h4, bel⟩

set_option maxRecDepth 100000 in
set_option maxHeartbeats 1000000 in
theorem on_none {x0 x1 x2 x3 x4 x5 y0 y1 y2 y3 y4 y5 : Int} {b : Bool} {w : World} (fX : fits [x0, x1, x2, x3, x4, x5]) (fY : fits [y0, y1, y2, y3, y4, y5]) (hb : b = true ↔ IsOn true (v64 [x0, x1, x2, x3, x4, x5]) (v64 [y0, y1, y2, y3, y4, y5])) :
    Calls Tryd.prog 13 #[.agg #[.int .u64 x0, .int .u64 x1, .int .u64 x2, .int .u64 x3, .int .u64 x4, .int .u64 x5, .int .u64 y0, .int .u64 y1, .int .u64 y2, .int .u64 y3, .int .u64 y4, .int .u64 y5, .bool true]] w fun e w' => e = .returned (.bool b) ∧ Below w.heap.size w w' := by
  have bq : (decide ([x0, x1, x2, x3, x4, x5] = [0, 0, 0, 0, 0, 0] ∧ [y0, y1, y2, y3, y4, y5] = [0, 0, 0, 0, 0, 0] ∧ true = true)) = b := by
    have e : ([x0, x1, x2, x3, x4, x5] = [0, 0, 0, 0, 0, 0] ∧ [y0, y1, y2, y3, y4, y5] = [0, 0, 0, 0, 0, 0] ∧ true = true) ↔ IsOn true (v64 [x0, x1, x2, x3, x4, x5]) (v64 [y0, y1, y2, y3, y4, y5]) := by
      rw [← v6_zero fX, ← v6_zero fY]; unfold IsOn; simp
    rw [← hb] at e
    cases b with
    | false => exact decide_eq_false (fun h => absurd (e.1 h) (by simp))
    | true => exact decide_eq_true (e.2 rfl)
  have q1 := eql_pt x0 x1 x2 x3 x4 x5 y0 y1 y2 y3 y4 y5 0 0 0 0 0 0 0 0 0 0 0 0 true true
  rw [bq] at q1
  clear bq hb
  have B0 := Blk.new w [.int .u64 x0, .int .u64 x1, .int .u64 x2, .int .u64 x3, .int .u64 x4, .int .u64 x5, .int .u64 y0, .int .u64 y1, .int .u64 y2, .int .u64 y3, .int .u64 y4, .int .u64 y5, .bool true] 26 w.heap.size rfl
  have bel : Below w.heap.size w (w.alloc (.cells [.int .u64 x0, .int .u64 x1, .int .u64 x2, .int .u64 x3, .int .u64 x4, .int .u64 x5, .int .u64 y0, .int .u64 y1, .int .u64 y2, .int .u64 y3, .int .u64 y4, .int .u64 y5, .bool true].toArray 26)) := (Below.refl _ _).alloc (Nat.le_refl _) _
  go_enter Tryd.func13, Tryd.ntmps13
  go_upto_region 1 with fail
  generalize w.alloc _ = W at *
  have lt0 := B0.lt
  have c0 := B0.cell 0 _ rfl; have f0 := B0.frozen 0; have c1 := B0.cell 1 _ rfl; have f1 := B0.frozen 1; have c2 := B0.cell 2 _ rfl; have f2 := B0.frozen 2; have c3 := B0.cell 3 _ rfl; have f3 := B0.frozen 3; have c4 := B0.cell 4 _ rfl; have f4 := B0.frozen 4; have c5 := B0.cell 5 _ rfl; have f5 := B0.frozen 5; have c6 := B0.cell 6 _ rfl; have f6 := B0.frozen 6; have c7 := B0.cell 7 _ rfl; have f7 := B0.frozen 7; have c8 := B0.cell 8 _ rfl; have f8 := B0.frozen 8; have c9 := B0.cell 9 _ rfl; have f9 := B0.frozen 9; have c10 := B0.cell 10 _ rfl; have f10 := B0.frozen 10; have c11 := B0.cell 11 _ rfl; have f11 := B0.frozen 11; have c12 := B0.cell 12 _ rfl; have f12 := B0.frozen 12
  go_wp2_with fail
  go_ret
  exact ⟨rfl, bel⟩

theorem on_rhs (X : Int) : Nu ((((X * X) % PP * X) % PP - (3 * X) % PP) % PP + BB - (X * X * X - 3 * X + BB)) := by
  have e1 := nu_emod (X * X)
  have e2 := nu_emod (((X * X) % PP) * X)
  have e3 := nu_emod (3 * X)
  generalize (X * X) % PP = A at *
  generalize (A * X) % PP = B at *
  generalize (3 * X) % PP = C at *
  have e4 := nu_emod (B - C)
  generalize (B - C) % PP = D at *
  exact nu_of4 e4 1 e2 1 e3 (-1) e1 X (by grind)

theorem on_iff {X Y : Int} (hX : Lo X) (hY : Lo Y) : cmpN ((Y * Y) % PP) (((((X * X) % PP * X) % PP - (3 * X) % PP) % PP + BB) % PP) = 0 ↔ IsOn false X Y := by
  have e := on_rhs X
  generalize (((X * X) % PP * X) % PP - (3 * X) % PP) % PP + BB = R at *
  have c : ∀ a b : Int, cmpN a b = 0 ↔ a = b := fun a b => by
    unfold cmpN
    by_cases h1 : a < b
    · rw [if_pos h1]; constructor <;> intro h <;> omega
    · rw [if_neg h1]
      by_cases h2 : a = b
      · rw [if_pos h2]; simp [h2]
      · rw [if_neg h2]; constructor <;> intro h <;> omega
  rw [c]
  constructor
  · intro h
    refine .inr ⟨rfl, hX, hY, ?_⟩
    have h1 : Nu (Y * Y - R) := nu_iff.2 (Int.emod_eq_emod_iff_emod_sub_eq_zero.1 h)
    exact nu_of2 h1 1 e 1 (by grind)
  · rintro (⟨h, _⟩ | ⟨_, h⟩)
    · exact absurd h (by simp)
    · exact nu_eq (nu_of2 h.cu 1 e (-1) (by grind))

set_option maxRecDepth 100000 in
set_option maxHeartbeats 2000000 in
theorem on_some {x0 x1 x2 x3 x4 x5 y0 y1 y2 y3 y4 y5 : Int} {b : Bool} {w : World} (fX : fits [x0, x1, x2, x3, x4, x5]) (fY : fits [y0, y1, y2, y3, y4, y5]) (hb : b = true ↔ IsOn false (v64 [x0, x1, x2, x3, x4, x5]) (v64 [y0, y1, y2, y3, y4, y5])) :
    Calls Tryd.prog 13 #[.agg #[.int .u64 x0, .int .u64 x1, .int .u64 x2, .int .u64 x3, .int .u64 x4, .int .u64 x5, .int .u64 y0, .int .u64 y1, .int .u64 y2, .int .u64 y3, .int .u64 y4, .int .u64 y5, .bool false]] w fun e w' => e = .returned (.bool b) ∧ Below w.heap.size w w' := by
  have B0 := Blk.new w [.int .u64 x0, .int .u64 x1, .int .u64 x2, .int .u64 x3, .int .u64 x4, .int .u64 x5, .int .u64 y0, .int .u64 y1, .int .u64 y2, .int .u64 y3, .int .u64 y4, .int .u64 y5, .bool false] 26 w.heap.size rfl
  have bel : Below w.heap.size w (w.alloc (.cells [.int .u64 x0, .int .u64 x1, .int .u64 x2, .int .u64 x3, .int .u64 x4, .int .u64 x5, .int .u64 y0, .int .u64 y1, .int .u64 y2, .int .u64 y3, .int .u64 y4, .int .u64 y5, .bool false].toArray 26)) := (Below.refl _ _).alloc (Nat.le_refl _) _
  have BX := v6_bound _ rfl fX
  have BY := v6_bound _ rfl fY
  have HX : Hid _ := BX
  have HY : Hid _ := BY
  have X3 : Hid _ := num_30 _ rfl fX
  have Y3 : Hid _ := num_30 _ rfl fY
  have HB : Hid _ := hb
  clear hb BX BY
  go_enter Tryd.func13, Tryd.ntmps13
  go_upto_region 1 with fail
  generalize w.alloc _ = W at *
  have lt0 := B0.lt
  have c0 := B0.cell 0 _ rfl; have f0 := B0.frozen 0; have c1 := B0.cell 1 _ rfl; have f1 := B0.frozen 1; have c2 := B0.cell 2 _ rfl; have f2 := B0.frozen 2; have c3 := B0.cell 3 _ rfl; have f3 := B0.frozen 3; have c4 := B0.cell 4 _ rfl; have f4 := B0.frozen 4; have c5 := B0.cell 5 _ rfl; have f5 := B0.frozen 5; have c6 := B0.cell 6 _ rfl; have f6 := B0.frozen 6; have c7 := B0.cell 7 _ rfl; have f7 := B0.frozen 7; have c8 := B0.cell 8 _ rfl; have f8 := B0.frozen 8; have c9 := B0.cell 9 _ rfl; have f9 := B0.frozen 9; have c10 := B0.cell 10 _ rfl; have f10 := B0.frozen 10; have c11 := B0.cell 11 _ rfl; have f11 := B0.frozen 11; have c12 := B0.cell 12 _ rfl; have f12 := B0.frozen 12
  go_wp2_with fail
  refine (of6_any [x0, x1, x2, x3, x4, x5] _ rfl fX).mono ?_
  rintro e w1 ⟨vx, rfl, NX, hb⟩
  replace B0 := B0.later hb
  replace bel := below_step bel hb
  clear hb lt0 c0 c1 c2 c3 c4 c5 c6 c7 c8 c9 c10 c11 c12 f0 f1 f2 f3 f4 f5 f6 f7 f8 f9 f10 f11 f12
  have lt0 := B0.lt
  have c0 := B0.cell 0 _ rfl; have f0 := B0.frozen 0; have c1 := B0.cell 1 _ rfl; have f1 := B0.frozen 1; have c2 := B0.cell 2 _ rfl; have f2 := B0.frozen 2; have c3 := B0.cell 3 _ rfl; have f3 := B0.frozen 3; have c4 := B0.cell 4 _ rfl; have f4 := B0.frozen 4; have c5 := B0.cell 5 _ rfl; have f5 := B0.frozen 5; have c6 := B0.cell 6 _ rfl; have f6 := B0.frozen 6; have c7 := B0.cell 7 _ rfl; have f7 := B0.frozen 7; have c8 := B0.cell 8 _ rfl; have f8 := B0.frozen 8; have c9 := B0.cell 9 _ rfl; have f9 := B0.frozen 9; have c10 := B0.cell 10 _ rfl; have f10 := B0.frozen 10; have c11 := B0.cell 11 _ rfl; have f11 := B0.frozen 11; have c12 := B0.cell 12 _ rfl; have f12 := B0.frozen 12
  go_wp2_with fail
  refine (of6_any [y0, y1, y2, y3, y4, y5] _ rfl fY).mono ?_
  rintro e w2 ⟨vy, rfl, NY, hb⟩
  replace NX := NX.later hb
  replace bel := below_step bel hb
  clear hb lt0 c0 c1 c2 c3 c4 c5 c6 c7 c8 c9 c10 c11 c12 f0 f1 f2 f3 f4 f5 f6 f7 f8 f9 f10 f11 f12 B0
  obtain ⟨X, hX⟩ : ∃ X, v64 [x0, x1, x2, x3, x4, x5] = X := ⟨_, rfl⟩
  obtain ⟨Y, hY⟩ : ∃ Y, v64 [y0, y1, y2, y3, y4, y5] = Y := ⟨_, rfl⟩
  rw [hX] at NX HX X3 HB
  rw [hY] at NY HY Y3 HB
  clear hX hY
  go_wp2_with fail
  refine p_any.mono ?_
  rintro e w3 ⟨v3, rfl, N3, hb⟩
  replace NX := NX.later hb
  replace NY := NY.later hb
  replace bel := below_step bel hb
  clear hb
  go_wp2_with fail
  refine (cmp_any _ _ _ _ _ NX N3).mono ?_
  rintro e w4 ⟨rfl, hb⟩
  replace NX := NX.later hb
  replace NY := NY.later hb
  replace bel := below_step bel hb
  clear hb N3
  by_cases hx : X < PP
  · have hge : ¬ 0 ≤ cmpN X PP := by have := cmp_neg hx; omega
    have hgd : decide (0 ≤ cmpN X PP) = false := decide_eq_false hge
    have LX : Hid (Lo X) := ⟨HX.out.1, hx⟩
    clear hx
    go_wp2_with fail
    refine p_any.mono ?_
    rintro e w5 ⟨v3, rfl, N3, hb⟩
    replace NX := NX.later hb
    replace NY := NY.later hb
    replace bel := below_step bel hb
    clear hb hge hgd
    go_wp2_with fail
    refine (cmp_any _ _ _ _ _ NY N3).mono ?_
    rintro e w6 ⟨rfl, hb⟩
    replace NX := NX.later hb
    replace NY := NY.later hb
    replace bel := below_step bel hb
    clear hb N3
    by_cases hy : Y < PP
    · have hge : ¬ 0 ≤ cmpN Y PP := by have := cmp_neg hy; omega
      have hgd : decide (0 ≤ cmpN Y PP) = false := decide_eq_false hge
      have LY : Hid (Lo Y) := ⟨HY.out.1, hy⟩
      clear hy
      go_wp2_with fail
      refine (pmul NY NY Y3.out Y3.out (lo_mul LY.out LY.out)).mono ?_
      rintro e w7 ⟨vl, rfl, NL, hb⟩
      replace NX := NX.later hb
      replace bel := below_step bel hb
      clear hb hge hgd NY
      go_wp2_with fail
      refine (pmul NX NX X3.out X3.out (lo_mul LX.out LX.out)).mono ?_
      rintro e w8 ⟨v8, rfl, N8, hb⟩
      replace NX := NX.later hb
      replace NL := NL.later hb
      replace bel := below_step bel hb
      clear hb
      go_wp2_with fail
      refine (pmul N8 NX (lo_30 (lo_emod _)) X3.out (lo_mul (lo_emod _) LX.out)).mono ?_
      rintro e w9 ⟨v9, rfl, N9, hb⟩
      replace NX := NX.later hb
      replace NL := NL.later hb
      replace bel := below_step bel hb
      clear hb N8
      have N3 := three_dig w9 22
      replace NX := NX.alloc (.cells #[.int .u64 3] 22)
      replace NL := NL.alloc (.cells #[.int .u64 3] 22)
      replace N9 := N9.alloc (.cells #[.int .u64 3] 22)
      replace bel := below_alloc (o := .cells #[.int .u64 3] 22) bel
      go_wp2_with fail
      generalize w9.alloc (Obj.cells #[.int .u64 3] 22) = W9 at *
      refine (pmul N3 NX (by decide) X3.out (lo_mul lo_three LX.out)).mono ?_
      rintro e w10 ⟨v10, rfl, N10, hb⟩
      replace NL := NL.later hb
      replace N9 := N9.later hb
      replace bel := below_step bel hb
      clear hb N3 NX
      go_wp2_with fail
      refine (psub N9 N10 (lo_30 (lo_emod _)) (lo_30 (lo_emod _))).mono ?_
      rintro e w11 ⟨v11, rfl, N11, hb⟩
      replace NL := NL.later hb
      replace bel := below_step bel hb
      clear hb N9 N10
      go_wp2_with fail
      refine r5_B.mono ?_
      rintro e w12 ⟨v12, rfl, N12, hb⟩
      replace NL := NL.later hb
      replace N11 := N11.later hb
      replace bel := below_step bel hb
      clear hb
      go_wp2_with fail
      refine (padd N11 N12 (lo_30 (lo_emod _)) (lo_30 lo_BB) (lo_sum (lo_emod _) lo_BB)).mono ?_
      rintro e w13 ⟨v13, rfl, N13, hb⟩
      replace NL := NL.later hb
      replace bel := below_step bel hb
      clear hb N11 N12
      go_wp2_with fail
      refine (cmp_any _ _ _ _ _ NL N13).mono ?_
      rintro e w14 ⟨rfl, hb⟩
      replace bel := below_step bel hb
      clear hb NL N13
      have hd : decide (cmpN ((Y * Y) % PP) (((((X * X) % PP * X) % PP - (3 * X) % PP) % PP + BB) % PP) = 0) = b := by
        have := on_iff LX.out LY.out
        rw [← HB.out] at this
        cases b with
        | false => exact decide_eq_false (fun h => absurd (this.1 h) (by simp))
        | true => exact decide_eq_true (this.2 rfl)
      generalize cmpN ((Y * Y) % PP) (((((X * X) % PP * X) % PP - (3 * X) % PP) % PP + BB) % PP) = cc at *
      have hq : (cc == 0) = b := hd
      clear hd HB
      subst hq
      go_wp2_with fail
      go_ret
      exact ⟨rfl, bel⟩
    · have hge : 0 ≤ cmpN Y PP := cmp_ge0 hy
      have hgd : decide (0 ≤ cmpN Y PP) = true := decide_eq_true hge
      have bf : b = false := by
        cases b with
        | false => rfl
        | true =>
          rcases HB.out.1 rfl with ⟨h, _⟩ | ⟨_, h⟩
          · exact absurd h (by simp)
          · exact absurd h.ly.2 hy
      subst bf
      go_wp2_with fail
      go_ret
      exact ⟨rfl, bel⟩
  · have hge : 0 ≤ cmpN X PP := cmp_ge0 hx
    have hgd : decide (0 ≤ cmpN X PP) = true := decide_eq_true hge
    have bf : b = false := by
      cases b with
      | false => rfl
      | true =>
        rcases HB.out.1 rfl with ⟨h, _⟩ | ⟨_, h⟩
        · exact absurd h (by simp)
        · exact absurd h.lx.2 hx
    subst bf
    go_wp2_with fail
    go_ret
    exact ⟨rfl, bel⟩

theorem r5_On {x0 x1 x2 x3 x4 x5 y0 y1 y2 y3 y4 y5 : Int} {n b : Bool} {w : World} (fX : fits [x0, x1, x2, x3, x4, x5]) (fY : fits [y0, y1, y2, y3, y4, y5]) (hb : b = true ↔ IsOn n (v64 [x0, x1, x2, x3, x4, x5]) (v64 [y0, y1, y2, y3, y4, y5])) :
    Calls Tryd.prog 13 #[.agg #[.int .u64 x0, .int .u64 x1, .int .u64 x2, .int .u64 x3, .int .u64 x4, .int .u64 x5, .int .u64 y0, .int .u64 y1, .int .u64 y2, .int .u64 y3, .int .u64 y4, .int .u64 y5, .bool n]] w fun e w' => e = .returned (.bool b) ∧ Below w.heap.size w w' := by
  cases n with
  | true => exact on_none fX fY hb
  | false => exact on_some fX fY hb
end Go.Proofs.YtpgidlnpcjbfhaaDoor
