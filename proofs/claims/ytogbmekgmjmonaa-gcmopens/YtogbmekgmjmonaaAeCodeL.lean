/- The program's lanes: doubles, products, squares, inverses, rotated, substitutes. -/
import Derived.Test.YtogbmekgmjmonaaRows
import Derived.Test.YtogbmekgmjmonaaAeLaneG
import Derived.BigQuiet
import Derived.Deep.WholeRow
import Derived.Deep.RegionHeld3
import Derived.Deep.DeepCutAuto
import Derived.Deep.DeepFit
namespace Go.Proofs.Ytogbmekgmjmonaa
open Go.RowKit

set_option maxRecDepth 100000 in
theorem con_doubles {a : Int} {xs : List Nat} {w : World} (h : Ln a xs) :
    Calls Try.prog 51 #[.int .u64 a] w fun e w' => ∃ c, e = .returned (.int .u64 c) ∧ Ln c (xs.map dL) ∧ w' = w := by
  have HD : Hid _ := h.dbl
  go_enter Try.func51, Try.ntmps51
  go_wp2
  go_ret
  exact ⟨_, rfl, HD.out, rfl⟩
theorem dI_succ (k : Nat) (xs : List Nat) : (xs.map fun x => dI x k).map dL = xs.map fun x => dI x (k + 1) := by
  rw [List.map_map]
  rfl

set_option maxRecDepth 100000 in
set_option maxHeartbeats 1000000 in
theorem con_products {a b : Int} {xs ys : List Nat} {w : World} (ha : Ln a xs) (hb : Ln b ys) :
    Calls Try.prog 58 #[.int .u64 a, .int .u64 b] w fun e w' => ∃ c, e = .returned (.int .u64 c) ∧ Ln c (List.zipWith pL xs ys) ∧ w' = w := by
  have HA : Hid (Ln a xs) := ha
  have HB : Hid (Ln b ys) := hb
  clear ha hb
  go_enter Try.func58, Try.ntmps58
  go_wp2_with fail
  go_loopw [0, 5, 7] (fun av sv iv wx => ∃ (k : Nat) (x s : Int), k ≤ 8 ∧ iv = .int .i64 k ∧ av = .int .u64 x ∧ sv = .int .u64 s ∧ Hid (Ln x (xs.map fun x => dI x k)) ∧ Hid (Ln s (List.zipWith (fun x y => sI x y k) xs ys)) ∧ wx = w) (fun _ _ iv _ => 8 - (intOf iv).toNat)
  case atStart => exact ⟨0, a, 0, by omega, rfl, rfl, rfl, HA.out.congr (by simp [dI]), Ln.nil.congr (sI_zero HA.out.2.1 HB.out.2.1), rfl⟩
  case round =>
    obtain ⟨k, x, s, hk, rfl, rfl, rfl, HX, HS, hw⟩ := hrel
    rw [hw]
    have HW : Hid (wr = w) := hw
    clear hw
    by_cases hlt : k < 8
    · have g1 : (k : Int) < 8 := by omega
      have g2 : ¬ (k : Int) < 0 := by omega
      have g3 : min k 64 = k := by omega
      have HP : Hid _ := Ln.prd (by omega) HX.out HB.out HS.out
      go_wp2_with fail
      refine (con_doubles HX.out).mono ?_
      rintro e w2 ⟨c, rfl, hc, hw2⟩
      rw [hw2]
      clear hw2
      rw [dI_succ] at hc
      have HC : Hid _ := hc
      clear hc
      go_wp2_with fail
      go_roundw
      case rel => exact ⟨k + 1, _, _, by omega, by go_num, rfl, rfl, HC, HP, trivial⟩
      case measure => simp [intOf]; omega
    · have HK : Hid (k = 8) := by show k = 8; omega
      have g1 : (8 : Int) ≤ (k : Int) := by omega
      go_wp2_with fail
      go_ret
      exact ⟨_, rfl, by have := HS.out; rw [HK.out] at this; exact this, rfl⟩

theorem con_productsM {a b : Int} {f g : Nat → Nat} {xs : List Nat} {w : World} (ha : Ln a (xs.map f)) (hb : Ln b (xs.map g)) :
    Calls Try.prog 58 #[.int .u64 a, .int .u64 b] w fun e w' => ∃ c, e = .returned (.int .u64 c) ∧ Ln c (xs.map fun x => pL (f x) (g x)) ∧ w' = w :=
  (con_products ha hb).mono fun e w' h => by
    obtain ⟨c, h1, h2, h3⟩ := h
    rw [zip_map] at h2
    exact ⟨c, h1, h2, h3⟩

set_option maxRecDepth 100000 in
theorem con_squares {a : Int} {f : Nat → Nat} {xs : List Nat} {w : World} (h : Ln a (xs.map f)) :
    Calls Try.prog 57 #[.int .u64 a] w fun e w' => ∃ c, e = .returned (.int .u64 c) ∧ Ln c (xs.map fun x => pL (f x) (f x)) ∧ w' = w := by
  have HA : Hid _ := h
  clear h
  go_enter Try.func57, Try.ntmps57
  go_wp2_with fail
  refine (con_productsM HA.out HA.out).mono ?_
  rintro e w2 ⟨c, rfl, hc, rfl⟩
  have HC : Hid _ := hc
  clear hc
  go_wp2_with fail
  go_ret
  exact ⟨_, rfl, HC.out, rfl⟩

set_option maxRecDepth 100000 in
set_option maxHeartbeats 1000000 in
theorem con_inverses {a : Int} {xs : List Nat} {w : World} (h : Ln a xs) :
    Calls Try.prog 55 #[.int .u64 a] w fun e w' => ∃ c, e = .returned (.int .u64 c) ∧ Ln c (xs.map iL) ∧ w' = w := by
  have HA : Hid (Ln a (xs.map id)) := h.congr (by simp)
  clear h
  go_enter Try.func55, Try.ntmps55
  go_wp2_with fail
  refine (con_squares HA.out).mono ?_
  rintro e w1 ⟨c1, rfl, hc, rfl⟩
  have H1 : Hid _ := hc
  clear hc
  go_wp2_with fail
  refine (con_productsM H1.out HA.out).mono ?_
  rintro e w2 ⟨c2, rfl, hc, rfl⟩
  have H2 : Hid _ := hc
  clear hc
  go_wp2_with fail
  refine (con_squares H2.out).mono ?_
  rintro e w3 ⟨c3, rfl, hc, rfl⟩
  have H3 : Hid _ := hc
  clear hc
  go_wp2_with fail
  refine (con_squares H3.out).mono ?_
  rintro e w4 ⟨c4, rfl, hc, rfl⟩
  have H4 : Hid _ := hc
  clear hc
  go_wp2_with fail
  refine (con_productsM H4.out H2.out).mono ?_
  rintro e w5 ⟨c5, rfl, hc, rfl⟩
  have H5 : Hid _ := hc
  clear hc
  go_wp2_with fail
  refine (con_squares H5.out).mono ?_
  rintro e w6 ⟨c6, rfl, hc, rfl⟩
  have H6 : Hid _ := hc
  clear hc
  go_wp2_with fail
  refine (con_squares H6.out).mono ?_
  rintro e w7 ⟨c7, rfl, hc, rfl⟩
  have H7 : Hid _ := hc
  clear hc
  go_wp2_with fail
  refine (con_squares H7.out).mono ?_
  rintro e w8 ⟨c8, rfl, hc, rfl⟩
  have H8 : Hid _ := hc
  clear hc
  go_wp2_with fail
  refine (con_squares H8.out).mono ?_
  rintro e w9 ⟨c9, rfl, hc, rfl⟩
  have H9 : Hid _ := hc
  clear hc
  go_wp2_with fail
  refine (con_productsM H9.out H4.out).mono ?_
  rintro e w10 ⟨c10, rfl, hc, rfl⟩
  have H10 : Hid _ := hc
  clear hc
  go_wp2_with fail
  refine (con_productsM H10.out H1.out).mono ?_
  rintro e w11 ⟨c11, rfl, hc, rfl⟩
  have H11 : Hid _ := hc
  clear hc
  go_wp2_with fail
  go_ret
  exact ⟨_, rfl, H11.out, rfl⟩

theorem below_stepA {a w w' : World} (h : Below a.heap.size a w) (hb : Below w.heap.size w w') : Below a.heap.size a w' := h.trans (hb.mono h.size)
set_option maxRecDepth 100000 in
theorem con_rot4 {a : Int} {xs : List Nat} {w : World} (h : Ln a xs) :
    Calls Try.prog 56 #[.int .u64 a, .int .i64 4] w fun e w' => ∃ c, e = .returned (.int .u64 c) ∧ Ln c (xs.map (rL 4)) ∧ Below w.heap.size w w' := by
  have HA : Hid _ := h.rot4
  clear h
  go_enter Try.func56, Try.ntmps56
  go_upto_region 2 with fail
  go_quiet (fail)
  go_wp2
  go_ret
  exact ⟨_, rfl, HA.out, below_dN (Below.refl _ _) nq⟩
set_option maxRecDepth 100000 in
theorem con_rot5 {a : Int} {xs : List Nat} {w : World} (h : Ln a xs) :
    Calls Try.prog 56 #[.int .u64 a, .int .i64 5] w fun e w' => ∃ c, e = .returned (.int .u64 c) ∧ Ln c (xs.map (rL 5)) ∧ Below w.heap.size w w' := by
  have HA : Hid _ := h.rot5
  clear h
  go_enter Try.func56, Try.ntmps56
  go_upto_region 2 with fail
  go_quiet (fail)
  go_wp2
  go_ret
  exact ⟨_, rfl, HA.out, below_dN (Below.refl _ _) nq⟩
set_option maxRecDepth 100000 in
theorem con_rot6 {a : Int} {xs : List Nat} {w : World} (h : Ln a xs) :
    Calls Try.prog 56 #[.int .u64 a, .int .i64 6] w fun e w' => ∃ c, e = .returned (.int .u64 c) ∧ Ln c (xs.map (rL 6)) ∧ Below w.heap.size w w' := by
  have HA : Hid _ := h.rot6
  clear h
  go_enter Try.func56, Try.ntmps56
  go_upto_region 2 with fail
  go_quiet (fail)
  go_wp2
  go_ret
  exact ⟨_, rfl, HA.out, below_dN (Below.refl _ _) nq⟩
set_option maxRecDepth 100000 in
theorem con_rot7 {a : Int} {xs : List Nat} {w : World} (h : Ln a xs) :
    Calls Try.prog 56 #[.int .u64 a, .int .i64 7] w fun e w' => ∃ c, e = .returned (.int .u64 c) ∧ Ln c (xs.map (rL 7)) ∧ Below w.heap.size w w' := by
  have HA : Hid _ := h.rot7
  clear h
  go_enter Try.func56, Try.ntmps56
  go_upto_region 2 with fail
  go_quiet (fail)
  go_wp2
  go_ret
  exact ⟨_, rfl, HA.out, below_dN (Below.refl _ _) nq⟩
set_option maxRecDepth 100000 in
set_option maxHeartbeats 1000000 in
theorem con_substitutes {a : Int} {xs : List Nat} {w : World} (h : Ln a xs) :
    Calls Try.prog 52 #[.int .u64 a] w fun e w' => ∃ c, e = .returned (.int .u64 c) ∧ Ln c (xs.map subN) ∧ Below w.heap.size w w' := by
  have HA : Hid (Ln a xs) := h
  clear h
  go_enter Try.func52, Try.ntmps52
  go_wp2_with fail
  refine (con_inverses HA.out).mono ?_
  rintro e w0 ⟨v, rfl, hv, rfl⟩
  have HV : Hid _ := hv
  clear hv
  go_wp2_with fail
  refine (con_rot4 HV.out).mono ?_
  rintro e w4 ⟨c4, rfl, hc, hb⟩
  have H4 : Hid _ := hc
  have bel := hb
  clear hc hb
  go_wp2_with fail
  refine (con_rot5 HV.out).mono ?_
  rintro e w5 ⟨c5, rfl, hc, hb⟩
  have H5 : Hid _ := hc
  replace bel := below_stepA bel hb
  clear hc hb
  go_wp2_with fail
  refine (con_rot6 HV.out).mono ?_
  rintro e w6 ⟨c6, rfl, hc, hb⟩
  have H6 : Hid _ := hc
  replace bel := below_stepA bel hb
  clear hc hb
  go_wp2_with fail
  refine (con_rot7 HV.out).mono ?_
  rintro e w7 ⟨c7, rfl, hc, hb⟩
  have H7 : Hid _ := hc
  replace bel := below_stepA bel hb
  clear hc hb
  have HF : Hid _ := Ln.sub HA.out.2.2 HV.out H4.out H5.out H6.out H7.out
  go_wp2_with fail
  go_ret
  exact ⟨_, rfl, HF.out, bel⟩

end Go.Proofs.Ytogbmekgmjmonaa
