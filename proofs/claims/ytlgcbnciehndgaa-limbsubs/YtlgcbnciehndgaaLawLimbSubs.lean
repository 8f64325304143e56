/- The law LimbSubs. -/
import Derived.Test.YtlgcbnciehndgaaRows
import Derived.Test.YtlgcbnciehndgaaOne
import Derived.Test.YtlgcbnciehndgaaTruth
import Derived.Test.YtlgcbnciehndgaaLSub
import Derived.Test.YtlgcbnciehndgaaROf6
import Derived.Test.YtlgcbnciehndgaaRSub
import Derived.Test.YtlgcbnciehndgaaRTop
import Derived.Test.YtlgcbnciehndgaaRCmp
import Derived.Test.YtlgcbnciehndgaaRTo6
import Derived.Test.YtlgcbnciehndgaaEq
import Derived.Deep.RegionHeld3
namespace Go.Proofs.Ytlgcbnciehndgaa
open Go.RowKit

theorem of66 {x0 x1 x2 x3 x4 x5 : Int} {w : World} (hx : fits [x0, x1, x2, x3, x4, x5]) :
    Calls Try.prog 12 #[.agg #[.int .u64 x0, .int .u64 x1, .int .u64 x2, .int .u64 x3, .int .u64 x4, .int .u64 x5]] w fun e w' => ∃ v', e = .returned v' ∧ NumIs w' v' (v64 [x0, x1, x2, x3, x4, x5]) ∧ Below w.heap.size w w' :=
  of6_any _ w rfl hx

theorem to6_is {v : Value} {N : Int} {w : World} {s0 s1 s2 s3 s4 s5 : Int} (h : NumIs w v N) (fS : fits [s0, s1, s2, s3, s4, s5]) (hS : v64 [s0, s1, s2, s3, s4, s5] = N % 18446744073709551616 ^ 6) :
    Calls Try.prog 13 #[v] w fun e w' => e = .returned (.agg #[.int .u64 s0, .int .u64 s1, .int .u64 s2, .int .u64 s3, .int .u64 s4, .int .u64 s5]) ∧ Below w.heap.size w w' := by
  refine (to6_any v N w h).mono ?_
  rintro e w' ⟨T, rfl, lT, fT, hT, hb⟩
  have : T = [s0, s1, s2, s3, s4, s5] := v64_inj T _ lT fT fS (by rw [hT, hS])
  subst this
  exact ⟨rfl, hb⟩

theorem info_u64 : (Try.prog.info? 22).map (fun i => (i.zero, i.size, i.bytes)) = some (some (.int .u64 0), 1, 8) := by kernel_rfl

theorem eql_same (x0 x1 x2 x3 x4 x5 : Int) : ∀ w : World, (Op.equalIn 10000 24 (.agg #[.int .u64 x0, .int .u64 x1, .int .u64 x2, .int .u64 x3, .int .u64 x4, .int .u64 x5]) (.agg #[.int .u64 x0, .int .u64 x1, .int .u64 x2, .int .u64 x3, .int .u64 x4, .int .u64 x5])).run Try.prog w = .ok true w := fun w => by
  obtain ⟨i0, hi, _, _, _⟩ := info_parts info_u64
  have h := run_eql_us w Try.underlying24 hi (by kernel_rfl) Try.underlying22 (by kernel_rfl) [x0, x1, x2, x3, x4, x5] [x0, x1, x2, x3, x4, x5] rfl rfl
  rw [decide_eq_true rfl] at h
  exact h

theorem less_num1 (R : List Int) (m : Int) (lR : R.length = 6) (fR : fits R) (m0 : 0 ≤ m) (m1 : m ≤ 1) (hr : v64 R - m * 18446744073709551616 ^ 6 = v64 [1, 0, 0, 0, 0, 0] - v64 [0, 0, 0, 0, 0, 0]) : m = 0 ∧ R = [1, 0, 0, 0, 0, 0] := by
  have bR := v64_bound R fR
  rw [lR] at bR
  have e0 : v64 [0, 0, 0, 0, 0, 0] = 0 := by simp [v64, pv]
  have e1 : v64 [1, 0, 0, 0, 0, 0] = 1 := by simp [v64, pv]
  rw [e0, e1] at hr
  have hm : m = 0 ∨ m = 1 := by omega
  have : m = 0 := by rcases hm with rfl | rfl <;> omega
  subst this
  exact ⟨rfl, v64_inj R _ lR fR fits_one (by omega)⟩

theorem dif_num (X Y Z : List Int) (n : Int) (lZ : Z.length = 6) (lX : X.length = 6) (fX : fits X) (fY : fits Y) (fZ : fits Z) (n0 : 0 ≤ n) (n1 : n ≤ 1) (h : v64 Z - n * 18446744073709551616 ^ 6 = v64 X - v64 Y) :
    v64 X < 4294967296 ^ 30 ∧ v64 X + 18446744073709551616 ^ 6 < 4294967296 ^ 30 ∧ (18446744073709551616 : Int) ^ 6 < 4294967296 ^ 30 ∧
      (v64 X < v64 Y → n = 1 ∧ v64 Y ≤ v64 X + 18446744073709551616 ^ 6 ∧ v64 Z = (v64 X + 18446744073709551616 ^ 6 - v64 Y) % 18446744073709551616 ^ 6) ∧
      (¬ v64 X < v64 Y → n = 0 ∧ v64 Y ≤ v64 X ∧ v64 Z = (v64 X - v64 Y) % 18446744073709551616 ^ 6) := by
  have bZ := v64_bound Z fZ
  have bX := v64_bound X fX
  have bY := v64_bound Y fY
  rw [lZ] at bZ
  rw [lX] at bX
  have e1 : (18446744073709551616 : Int) ^ 6 + 18446744073709551616 ^ 6 < 4294967296 ^ 30 := by decide
  have e3 : (0 : Int) < 18446744073709551616 ^ 6 := by decide
  generalize (18446744073709551616 : Int) ^ 6 = R at *
  generalize (4294967296 : Int) ^ 30 = P at *
  have hn : n = 0 ∨ n = 1 := by omega
  refine ⟨by omega, by omega, by omega, fun hl => ?_, fun hl => ?_⟩
  · have h1 : n = 1 := by rcases hn with rfl | rfl <;> omega
    subst h1
    refine ⟨rfl, by omega, ?_⟩
    rw [show v64 X + R - v64 Y = v64 Z by omega, Int.emod_eq_of_lt bZ.1 bZ.2]
  · have h1 : n = 0 := by rcases hn with rfl | rfl <;> omega
    subst h1
    refine ⟨rfl, by omega, ?_⟩
    rw [show v64 X - v64 Y = v64 Z by omega, Int.emod_eq_of_lt bZ.1 bZ.2]

theorem cmp_ge {X Y : Int} (h : ¬ X < Y) : 0 ≤ cmpN X Y := by
  unfold cmpN; rw [if_neg h]; split <;> decide

set_option maxRecDepth 100000 in
set_option maxHeartbeats 2000000 in
theorem law_limbSubs (x0 x1 x2 x3 x4 x5 y0 y1 y2 y3 y4 y5 : Int) (w : World) (hx : fits [x0, x1, x2, x3, x4, x5]) (hy : fits [y0, y1, y2, y3, y4, y5]) :
    Calls Try.prog 4 #[.agg #[.int .u64 x0, .int .u64 x1, .int .u64 x2, .int .u64 x3, .int .u64 x4, .int .u64 x5], .agg #[.int .u64 y0, .int .u64 y1, .int .u64 y2, .int .u64 y3, .int .u64 y4, .int .u64 y5]] w fun e w' => e = .returned (.bool true) ∧ Below w.heap.size w w' := by
  have B0 := (Blk.new w (us [x0, x1, x2, x3, x4, x5]) 24 w.heap.size rfl).alloc (.cells (us [y0, y1, y2, y3, y4, y5]).toArray 24)
  have B1 := Blk.new (w.alloc (.cells (us [x0, x1, x2, x3, x4, x5]).toArray 24)) (us [y0, y1, y2, y3, y4, y5]) 24 (w.heap.size + 1) (by simp)
  have bel : Below w.heap.size w ((w.alloc (.cells (us [x0, x1, x2, x3, x4, x5]).toArray 24)).alloc (.cells (us [y0, y1, y2, y3, y4, y5]).toArray 24)) := ((Below.refl _ _).alloc (Nat.le_refl _) _).alloc (by simp) _
  have fz : fits [0, 0, 0, 0, 0, 0] := fits_zero 6
  go_enter Try.func4, Try.ntmps4
  go_wp2_with fail
  simp only [us, List.map_cons, List.map_nil] at B0 B1 bel
  generalize (w.alloc (Obj.cells #[.int .u64 x0, .int .u64 x1, .int .u64 x2, .int .u64 x3, .int .u64 x4, .int .u64 x5] 24)).alloc (Obj.cells #[.int .u64 y0, .int .u64 y1, .int .u64 y2, .int .u64 y3, .int .u64 y4, .int .u64 y5] 24) = W at *
  have z1 := B1.lt
  refine (one_any _).mono ?_
  rintro e w1 ⟨rfl, hb⟩
  replace B0 := B0.later hb
  replace B1 := B1.later hb
  replace bel := bel.trans (hb.mono (by omega))
  clear hb z1
  have z1 := B1.lt
  go_wp2_with fail
  refine (sub6 fits_one fz).mono ?_
  rintro e w2 ⟨r0, r1, r2, r3, r4, r5, m, rfl, fR, m0, m1, hr, hb⟩
  obtain ⟨hm, hR⟩ := less_num1 [r0, r1, r2, r3, r4, r5] m rfl fR m0 m1 hr
  simp only [List.cons.injEq, and_true] at hR
  obtain ⟨rfl, rfl, rfl, rfl, rfl, rfl⟩ := hR
  subst hm
  replace B0 := B0.later hb
  replace B1 := B1.later hb
  replace bel := bel.trans (hb.mono (by omega))
  clear hb z1 hr m0 m1
  have z0 := B0.lt
  have z1 := B1.lt
  obtain ⟨c0, c1, c2, c3, c4, c5⟩ := B0.cells6
  obtain ⟨d0, d1, d2, d3, d4, d5⟩ := B1.cells6
  go_wp2_with fail
  refine (sub6 hx hy).mono ?_
  rintro e w3 ⟨s0, s1, s2, s3, s4, s5, n, rfl, fS, n0, n1, hs, hb⟩
  clear c0 c1 c2 c3 c4 c5 d0 d1 d2 d3 d4 d5
  have B2 := (Blk.new w2 (us [1, 0, 0, 0, 0, 0]) 24 w2.heap.size rfl).later hb
  replace B0 := (B0.alloc _).later hb
  replace B1 := (B1.alloc _).later hb
  replace bel := (bel.alloc (by omega) _).trans (hb.mono (by simp <;> omega))
  obtain ⟨p1, p2, p3, p4, p5⟩ := dif_num [x0, x1, x2, x3, x4, x5] [y0, y1, y2, y3, y4, y5] [s0, s1, s2, s3, s4, s5] n rfl rfl hx hy fS n0 n1 hs
  have P4 : Hid _ := p4
  have P5 : Hid _ := p5
  clear hb z0 z1 hs n0 n1 p4 p5
  have z0 := B0.lt
  have z1 := B1.lt
  obtain ⟨c0, c1, c2, c3, c4, c5⟩ := B0.cells6
  have B3 := Blk.new w3 (us [s0, s1, s2, s3, s4, s5]) 24 w3.heap.size rfl
  replace B0 := B0.alloc (.cells (us [s0, s1, s2, s3, s4, s5]).toArray 24)
  replace B1 := B1.alloc (.cells (us [s0, s1, s2, s3, s4, s5]).toArray 24)
  replace B2 := B2.alloc (.cells (us [s0, s1, s2, s3, s4, s5]).toArray 24)
  replace bel := bel.alloc (by omega) (.cells (us [s0, s1, s2, s3, s4, s5]).toArray 24)
  go_wp2_with fail
  simp only [us, List.map_cons, List.map_nil] at B0 B1 B2 B3 bel
  clear c0 c1 c2 c3 c4 c5
  generalize w3.alloc (Obj.cells #[.int .u64 s0, .int .u64 s1, .int .u64 s2, .int .u64 s3, .int .u64 s4, .int .u64 s5] 24) = W3 at *
  obtain ⟨b7, hb7⟩ : ∃ b, b = w3.heap.size := ⟨_, rfl⟩
  obtain ⟨b5, hb5⟩ : ∃ b, b = w2.heap.size := ⟨_, rfl⟩
  rw [← hb7] at B3 ⊢
  rw [← hb5] at B2 ⊢
  clear z0 z1 hb7 hb5
  have z1 := B1.lt
  refine (of66 hx).mono ?_
  rintro e w4 ⟨v1, rfl, hN1, hb⟩
  replace bel := bel.trans (hb.mono (by omega))
  replace B1 := B1.later hb
  replace B2 := B2.later hb
  replace B3 := B3.later hb
  clear hb z1 B0
  have z1 := B1.lt
  obtain ⟨d0, d1, d2, d3, d4, d5⟩ := B1.cells6
  go_wp2_with fail
  refine (of66 hy).mono ?_
  rintro e w5 ⟨v2, rfl, hN2, hb⟩
  clear d0 d1 d2 d3 d4 d5
  replace bel := bel.trans (hb.mono (by omega))
  replace B1 := B1.later hb
  replace B2 := B2.later hb
  replace B3 := B3.later hb
  replace hN1 := hN1.later hb
  clear hb z1
  have z1 := B1.lt
  go_wp2_with fail
  refine (cmp_any _ _ _ _ _ hN1 hN2).mono ?_
  rintro e w6 ⟨rfl, hb⟩
  replace bel := bel.trans (hb.mono (by omega))
  replace B1 := B1.later hb
  replace B2 := B2.later hb
  replace B3 := B3.later hb
  replace hN1 := hN1.later hb
  replace hN2 := hN2.later hb
  clear hb z1
  have q1 := eql_same 1 0 0 0 0 0
  have q2 := eql_same s0 s1 s2 s3 s4 s5
  by_cases hlt : v64 [x0, x1, x2, x3, x4, x5] < v64 [y0, y1, y2, y3, y4, y5]
  · obtain ⟨k1, k2', k3'⟩ := P4.out hlt
    rw [← cmpN_lt hlt]
    have k2 : Hid _ := k2'
    have k3 : Hid _ := k3'
    subst k1
    clear k2' k3' hlt
    have z1 := B1.lt
    go_wp2_with fail
    refine (top_any _).mono ?_
    rintro e w7 ⟨v3, rfl, hN3, hb⟩
    replace bel := bel.trans (hb.mono (by omega))
    replace B1 := B1.later hb
    replace B2 := B2.later hb
    replace B3 := B3.later hb
    replace hN1 := hN1.later hb
    replace hN2 := hN2.later hb
    clear hb z1
    have z1 := B1.lt
    go_wp2_with fail
    refine (radd_any _ _ _ _ _ hN1 hN3 p1 p3).mono ?_
    rintro e w8 ⟨v4, rfl, hN4, hb⟩
    replace bel := bel.trans (hb.mono (by omega))
    replace B2 := B2.later hb
    replace B3 := B3.later hb
    replace hN2 := hN2.later hb
    clear hb z1 hN1 hN3 B1
    go_wp2_with fail
    have hs0 := bel.size
    have hsz5 := B2.lt
    have hsz7 := B3.lt
    obtain ⟨c0, c1, c2, c3, c4, c5⟩ := B2.cells6
    obtain ⟨e0, e1, e2, e3, e4, e5⟩ := B3.cells6
    clear B2 B3
    go_region_held3 (fun wx => wx.cell? ⟨b5, 0, none⟩ = some (.int .u64 1) ∧ wx.cell? ⟨b5, 1, none⟩ = some (.int .u64 0) ∧ wx.cell? ⟨b5, 2, none⟩ = some (.int .u64 0) ∧ wx.cell? ⟨b5, 3, none⟩ = some (.int .u64 0) ∧ wx.cell? ⟨b5, 4, none⟩ = some (.int .u64 0) ∧ wx.cell? ⟨b5, 5, none⟩ = some (.int .u64 0) ∧ wx.cell? ⟨b7, 0, none⟩ = some (.int .u64 s0) ∧ wx.cell? ⟨b7, 1, none⟩ = some (.int .u64 s1) ∧ wx.cell? ⟨b7, 2, none⟩ = some (.int .u64 s2) ∧ wx.cell? ⟨b7, 3, none⟩ = some (.int .u64 s3) ∧ wx.cell? ⟨b7, 4, none⟩ = some (.int .u64 s4) ∧ wx.cell? ⟨b7, 5, none⟩ = some (.int .u64 s5) ∧ b5 < wx.heap.size ∧ b7 < wx.heap.size ∧ w.heap.size ≤ wx.heap.size ∧ Below w.heap.size w wx ∧ NumIs wx v4 (v64 [x0, x1, x2, x3, x4, x5] + 18446744073709551616 ^ 6) ∧ NumIs wx v2 (v64 [y0, y1, y2, y3, y4, y5]))
      (first | (exact ⟨c0, c1, c2, c3, c4, c5, e0, e1, e2, e3, e4, e5, hsz5, hsz7, hs0, bel.drew, hN4.drew, hN2.drew⟩) | (go_split_ands; refine ⟨?_, ?_, ?_, ?_, ?_, ?_, ?_, ?_, ?_, ?_, ?_, ?_, ?_, ?_, ?_, ?_, ?_, ?_⟩ <;> first | assumption | (rw [hb.cell (by first | assumption | omega | (simp <;> omega))]; assumption) | (have := hb.size; omega) | (refine Below.trans (by assumption) (hb.mono (by omega))) | (refine NumIs.later (by assumption) hb)))
      (first
        | (go_at_call 10; refine (one_any _).mono ?_; rintro e w' ⟨rfl, hb⟩)
        | (go_at_call 19; refine (rsub_any _ _ (v64 [x0, x1, x2, x3, x4, x5] + 18446744073709551616 ^ 6) (v64 [y0, y1, y2, y3, y4, y5]) _ (by go_split_ands; assumption) (by go_split_ands; assumption) p2 k2.out).mono ?_; rintro e w' ⟨v9, rfl, hN9, hb⟩)
        | (go_at_call 13; refine (to6_is hN9 fS k3.out).mono ?_; rintro e w' ⟨rfl, hb⟩)
        | (go_at_call 14; refine (truth_any _ _).mono ?_; rintro e w' ⟨rfl, rfl⟩))
    all_goals go_split_ands
    all_goals go_wp2
    all_goals (go_ret; exact ⟨rfl, by assumption⟩)
  · obtain ⟨k1, k2', k3'⟩ := P5.out (by omega)
    have hc : Hid (0 ≤ cmpN (v64 [x0, x1, x2, x3, x4, x5]) (v64 [y0, y1, y2, y3, y4, y5])) := cmp_ge hlt
    obtain ⟨c, hcc⟩ : ∃ c, cmpN (v64 [x0, x1, x2, x3, x4, x5]) (v64 [y0, y1, y2, y3, y4, y5]) = c := ⟨_, rfl⟩
    have hc0 : ¬ c < 0 := by have := hc.out; rw [hcc] at this; omega
    have hcd : decide (c < 0) = false := decide_eq_false hc0
    rw [hcc]
    have k2 : Hid _ := k2'
    have k3 : Hid _ := k3'
    subst k1
    clear k2' k3' hlt hcc hc B1
    go_wp2_with fail
    have hs0 := bel.size
    have hsz5 := B2.lt
    have hsz7 := B3.lt
    obtain ⟨c0, c1, c2, c3, c4, c5⟩ := B2.cells6
    obtain ⟨e0, e1, e2, e3, e4, e5⟩ := B3.cells6
    clear B2 B3
    go_region_held3 (fun wx => wx.cell? ⟨b5, 0, none⟩ = some (.int .u64 1) ∧ wx.cell? ⟨b5, 1, none⟩ = some (.int .u64 0) ∧ wx.cell? ⟨b5, 2, none⟩ = some (.int .u64 0) ∧ wx.cell? ⟨b5, 3, none⟩ = some (.int .u64 0) ∧ wx.cell? ⟨b5, 4, none⟩ = some (.int .u64 0) ∧ wx.cell? ⟨b5, 5, none⟩ = some (.int .u64 0) ∧ wx.cell? ⟨b7, 0, none⟩ = some (.int .u64 s0) ∧ wx.cell? ⟨b7, 1, none⟩ = some (.int .u64 s1) ∧ wx.cell? ⟨b7, 2, none⟩ = some (.int .u64 s2) ∧ wx.cell? ⟨b7, 3, none⟩ = some (.int .u64 s3) ∧ wx.cell? ⟨b7, 4, none⟩ = some (.int .u64 s4) ∧ wx.cell? ⟨b7, 5, none⟩ = some (.int .u64 s5) ∧ b5 < wx.heap.size ∧ b7 < wx.heap.size ∧ w.heap.size ≤ wx.heap.size ∧ Below w.heap.size w wx ∧ NumIs wx v1 (v64 [x0, x1, x2, x3, x4, x5]) ∧ NumIs wx v2 (v64 [y0, y1, y2, y3, y4, y5]))
      (first | (exact ⟨c0, c1, c2, c3, c4, c5, e0, e1, e2, e3, e4, e5, hsz5, hsz7, hs0, bel.drew, hN1.drew, hN2.drew⟩) | (go_split_ands; refine ⟨?_, ?_, ?_, ?_, ?_, ?_, ?_, ?_, ?_, ?_, ?_, ?_, ?_, ?_, ?_, ?_, ?_, ?_⟩ <;> first | assumption | (rw [hb.cell (by first | assumption | omega | (simp <;> omega))]; assumption) | (have := hb.size; omega) | (refine Below.trans (by assumption) (hb.mono (by omega))) | (refine NumIs.later (by assumption) hb)))
      (first
        | (go_at_call 10; refine (one_any _).mono ?_; rintro e w' ⟨rfl, hb⟩)
        | (go_at_call 19; refine (rsub_any _ _ (v64 [x0, x1, x2, x3, x4, x5]) (v64 [y0, y1, y2, y3, y4, y5]) _ (by go_split_ands; assumption) (by go_split_ands; assumption) p1 k2.out).mono ?_; rintro e w' ⟨v9, rfl, hN9, hb⟩)
        | (go_at_call 13; refine (to6_is hN9 fS k3.out).mono ?_; rintro e w' ⟨rfl, hb⟩)
        | (go_at_call 14; refine (truth_any _ _).mono ?_; rintro e w' ⟨rfl, rfl⟩))
    all_goals go_split_ands
    all_goals go_wp2
    all_goals (go_ret; exact ⟨rfl, by assumption⟩)
end Go.Proofs.Ytlgcbnciehndgaa
