/- The law LimbMuls. -/
import Derived.Test.YtlgcbnciehndgaaRows
import Derived.Test.YtlgcbnciehndgaaOne
import Derived.Test.YtlgcbnciehndgaaLMul
import Derived.Test.YtlgcbnciehndgaaROf6
import Derived.Test.YtlgcbnciehndgaaROf12
import Derived.Test.YtlgcbnciehndgaaRMul
import Derived.Test.YtlgcbnciehndgaaRCmp
import Derived.Test.YtlgcbnciehndgaaEq
import Derived.Deep.RegionHeld3
namespace Go.Proofs.Ytlgcbnciehndgaa
open Go.RowKit

theorem of66 {x0 x1 x2 x3 x4 x5 : Int} {w : World} (hx : fits [x0, x1, x2, x3, x4, x5]) :
    Calls Try.prog 12 #[.agg #[.int .u64 x0, .int .u64 x1, .int .u64 x2, .int .u64 x3, .int .u64 x4, .int .u64 x5]] w fun e w' => ∃ v', e = .returned v' ∧ NumIs w' v' (v64 [x0, x1, x2, x3, x4, x5]) ∧ Below w.heap.size w w' :=
  of6_any _ w rfl hx

theorem info_u64 : (Try.prog.info? 22).map (fun i => (i.zero, i.size, i.bytes)) = some (some (.int .u64 0), 1, 8) := by kernel_rfl

theorem of12z {p0 p1 p2 p3 p4 p5 p6 p7 p8 p9 p10 p11 : Int} {w : World} (hx : fits [p0, p1, p2, p3, p4, p5, p6, p7, p8, p9, p10, p11]) :
    Calls Try.prog 22 #[.agg #[.int .u64 p0, .int .u64 p1, .int .u64 p2, .int .u64 p3, .int .u64 p4, .int .u64 p5, .int .u64 p6, .int .u64 p7, .int .u64 p8, .int .u64 p9, .int .u64 p10, .int .u64 p11]] w fun e w' => ∃ v', e = .returned v' ∧ NumIs w' v' (v64 [p0, p1, p2, p3, p4, p5, p6, p7, p8, p9, p10, p11]) ∧ Below w.heap.size w w' :=
  of12_any _ w rfl hx

theorem eql_same12 (p0 p1 p2 p3 p4 p5 p6 p7 p8 p9 p10 p11 : Int) : ∀ w : World, (Op.equalIn 10000 39 (.agg #[.int .u64 p0, .int .u64 p1, .int .u64 p2, .int .u64 p3, .int .u64 p4, .int .u64 p5, .int .u64 p6, .int .u64 p7, .int .u64 p8, .int .u64 p9, .int .u64 p10, .int .u64 p11]) (.agg #[.int .u64 p0, .int .u64 p1, .int .u64 p2, .int .u64 p3, .int .u64 p4, .int .u64 p5, .int .u64 p6, .int .u64 p7, .int .u64 p8, .int .u64 p9, .int .u64 p10, .int .u64 p11])).run Try.prog w = .ok true w := fun w => by
  obtain ⟨i0, hi, _, _, _⟩ := info_parts info_u64
  have h := run_eql_us w Try.underlying39 hi (by kernel_rfl) Try.underlying22 (by kernel_rfl) [p0, p1, p2, p3, p4, p5, p6, p7, p8, p9, p10, p11] [p0, p1, p2, p3, p4, p5, p6, p7, p8, p9, p10, p11] rfl rfl
  rw [decide_eq_true rfl] at h
  exact h

theorem mul66 {x0 x1 x2 x3 x4 x5 y0 y1 y2 y3 y4 y5 : Int} {w : World} (hx : fits [x0, x1, x2, x3, x4, x5]) (hy : fits [y0, y1, y2, y3, y4, y5]) :
    Calls Try.prog 20 #[.agg #[.int .u64 x0, .int .u64 x1, .int .u64 x2, .int .u64 x3, .int .u64 x4, .int .u64 x5], .agg #[.int .u64 y0, .int .u64 y1, .int .u64 y2, .int .u64 y3, .int .u64 y4, .int .u64 y5]] w fun e w' => ∃ p0 p1 p2 p3 p4 p5 p6 p7 p8 p9 p10 p11 : Int, e = .returned (.agg #[.int .u64 p0, .int .u64 p1, .int .u64 p2, .int .u64 p3, .int .u64 p4, .int .u64 p5, .int .u64 p6, .int .u64 p7, .int .u64 p8, .int .u64 p9, .int .u64 p10, .int .u64 p11]) ∧ fits [p0, p1, p2, p3, p4, p5, p6, p7, p8, p9, p10, p11] ∧ v64 [p0, p1, p2, p3, p4, p5, p6, p7, p8, p9, p10, p11] = v64 [x0, x1, x2, x3, x4, x5] * v64 [y0, y1, y2, y3, y4, y5] ∧ Below w.heap.size w w' := by
  refine (mul_any [x0, x1, x2, x3, x4, x5] [y0, y1, y2, y3, y4, y5] w rfl rfl hx hy).mono ?_
  rintro e w' ⟨P, rfl, lP, fP, hP, hb⟩
  obtain ⟨p0, p1, p2, p3, p4, p5, p6, p7, p8, p9, p10, p11, rfl⟩ := twelve lP
  exact ⟨p0, p1, p2, p3, p4, p5, p6, p7, p8, p9, p10, p11, rfl, fP, hP, hb⟩

theorem mulz {x0 x1 x2 x3 x4 x5 y0 y1 y2 y3 y4 y5 p0 p1 p2 p3 p4 p5 p6 p7 p8 p9 p10 p11 : Int} {w : World} (hx : fits [x0, x1, x2, x3, x4, x5]) (hy : fits [y0, y1, y2, y3, y4, y5]) (fP : fits [p0, p1, p2, p3, p4, p5, p6, p7, p8, p9, p10, p11]) (hP : v64 [p0, p1, p2, p3, p4, p5, p6, p7, p8, p9, p10, p11] = v64 [x0, x1, x2, x3, x4, x5] * v64 [y0, y1, y2, y3, y4, y5]) :
    Calls Try.prog 20 #[.agg #[.int .u64 x0, .int .u64 x1, .int .u64 x2, .int .u64 x3, .int .u64 x4, .int .u64 x5], .agg #[.int .u64 y0, .int .u64 y1, .int .u64 y2, .int .u64 y3, .int .u64 y4, .int .u64 y5]] w fun e w' => e = .returned (.agg #[.int .u64 p0, .int .u64 p1, .int .u64 p2, .int .u64 p3, .int .u64 p4, .int .u64 p5, .int .u64 p6, .int .u64 p7, .int .u64 p8, .int .u64 p9, .int .u64 p10, .int .u64 p11]) ∧ Below w.heap.size w w' := by
  refine (mul_any [x0, x1, x2, x3, x4, x5] [y0, y1, y2, y3, y4, y5] w rfl rfl hx hy).mono ?_
  rintro e w' ⟨R, rfl, lR, fR, hR, hb⟩
  have : R = [p0, p1, p2, p3, p4, p5, p6, p7, p8, p9, p10, p11] := v64_inj R _ lR fR fP (by rw [hR, hP])
  subst this
  exact ⟨rfl, hb⟩

theorem Blk.cells12 {w : World} {b : Nat} {p0 p1 p2 p3 p4 p5 p6 p7 p8 p9 p10 p11 : Int} (h : Blk w b (us [p0, p1, p2, p3, p4, p5, p6, p7, p8, p9, p10, p11])) : w.cell? ⟨b, 0, none⟩ = some (.int .u64 p0) ∧ w.cell? ⟨b, 1, none⟩ = some (.int .u64 p1) ∧ w.cell? ⟨b, 2, none⟩ = some (.int .u64 p2) ∧ w.cell? ⟨b, 3, none⟩ = some (.int .u64 p3) ∧ w.cell? ⟨b, 4, none⟩ = some (.int .u64 p4) ∧ w.cell? ⟨b, 5, none⟩ = some (.int .u64 p5) ∧ w.cell? ⟨b, 6, none⟩ = some (.int .u64 p6) ∧ w.cell? ⟨b, 7, none⟩ = some (.int .u64 p7) ∧ w.cell? ⟨b, 8, none⟩ = some (.int .u64 p8) ∧ w.cell? ⟨b, 9, none⟩ = some (.int .u64 p9) ∧ w.cell? ⟨b, 10, none⟩ = some (.int .u64 p10) ∧ w.cell? ⟨b, 11, none⟩ = some (.int .u64 p11) :=
  ⟨h.cell 0 _ rfl, h.cell 1 _ rfl, h.cell 2 _ rfl, h.cell 3 _ rfl, h.cell 4 _ rfl, h.cell 5 _ rfl, h.cell 6 _ rfl, h.cell 7 _ rfl, h.cell 8 _ rfl, h.cell 9 _ rfl, h.cell 10 _ rfl, h.cell 11 _ rfl⟩

theorem range_blk {w : World} {b : Nat} {cs : List Value} (h : Blk w b cs) : w.rangeAt b 0 cs := fun j v hv => by
  rw [Nat.zero_add]; exact h.cell j v hv

theorem fits_one12 : fits [1, 0, 0, 0, 0, 0, 0, 0, 0, 0, 0, 0] := by
  have := fits_set (fits_zero 12) 0 1 (by decide) (by decide)
  exact this

theorem one_prod : v64 [1, 0, 0, 0, 0, 0, 0, 0, 0, 0, 0, 0] = v64 [1, 0, 0, 0, 0, 0] * v64 [1, 0, 0, 0, 0, 0] := by simp [v64, pv]

theorem num_bd (X : List Int) (lX : X.length = 6) (fX : fits X) : v64 X < 4294967296 ^ 30 := by
  have b := v64_bound X fX
  rw [lX] at b
  have e : (18446744073709551616 : Int) ^ 6 < 4294967296 ^ 30 := by decide
  omega

theorem size_768 : (Try.prog.info? 39).map (·.size) = some 12 := by kernel_rfl

set_option maxRecDepth 100000 in
set_option maxHeartbeats 2000000 in
theorem law_limbMuls (x0 x1 x2 x3 x4 x5 y0 y1 y2 y3 y4 y5 : Int) (w : World) (hx : fits [x0, x1, x2, x3, x4, x5]) (hy : fits [y0, y1, y2, y3, y4, y5]) :
    Calls Try.prog 6 #[.agg #[.int .u64 x0, .int .u64 x1, .int .u64 x2, .int .u64 x3, .int .u64 x4, .int .u64 x5], .agg #[.int .u64 y0, .int .u64 y1, .int .u64 y2, .int .u64 y3, .int .u64 y4, .int .u64 y5]] w fun e w' => e = .returned (.bool true) ∧ Below w.heap.size w w' := by
  have B0 := (Blk.new w (us [x0, x1, x2, x3, x4, x5]) 24 w.heap.size rfl).alloc (.cells (us [y0, y1, y2, y3, y4, y5]).toArray 24)
  have B1 := Blk.new (w.alloc (.cells (us [x0, x1, x2, x3, x4, x5]).toArray 24)) (us [y0, y1, y2, y3, y4, y5]) 24 (w.heap.size + 1) (by simp)
  have bel : Below w.heap.size w ((w.alloc (.cells (us [x0, x1, x2, x3, x4, x5]).toArray 24)).alloc (.cells (us [y0, y1, y2, y3, y4, y5]).toArray 24)) := ((Below.refl _ _).alloc (Nat.le_refl _) _).alloc (by simp) _
  have hbd3 := num_bd [x0, x1, x2, x3, x4, x5] rfl hx
  have hbd4 := num_bd [y0, y1, y2, y3, y4, y5] rfl hy
  go_enter Try.func6, Try.ntmps6
  go_wp2_with fail
  simp only [us, List.map_cons, List.map_nil] at B0 B1 bel
  generalize (w.alloc (Obj.cells #[.int .u64 x0, .int .u64 x1, .int .u64 x2, .int .u64 x3, .int .u64 x4, .int .u64 x5] 24)).alloc (Obj.cells #[.int .u64 y0, .int .u64 y1, .int .u64 y2, .int .u64 y3, .int .u64 y4, .int .u64 y5] 24) = W at *
  have z1 := B1.lt
  refine (one_any _).mono ?_
  rintro e w1 ⟨rfl, hb⟩
  replace B0 := B0.later hb
  replace B1 := B1.later hb
  replace bel := bel.trans (hb.mono (by omega))
  clear hb z1
  have z1 := B1.lt
  go_wp2_with fail
  refine (one_any _).mono ?_
  rintro e w2 ⟨rfl, hb⟩
  replace B0 := B0.later hb
  replace B1 := B1.later hb
  replace bel := bel.trans (hb.mono (by omega))
  clear hb z1
  have z1 := B1.lt
  go_wp2_with fail
  refine (mulz fits_one fits_one fits_one12 one_prod).mono ?_
  rintro e w3 ⟨rfl, hb⟩
  replace B0 := B0.later hb
  replace B1 := B1.later hb
  replace bel := bel.trans (hb.mono (by omega))
  clear hb z1
  have z0 := B0.lt
  have z1 := B1.lt
  obtain ⟨c0, c1, c2, c3, c4, c5⟩ := B0.cells6
  obtain ⟨d0, d1, d2, d3, d4, d5⟩ := B1.cells6
  go_wp2_with fail
  refine (mul66 hx hy).mono ?_
  rintro e w4 ⟨p0, p1, p2, p3, p4, p5, p6, p7, p8, p9, p10, p11, rfl, fP, hP, hb⟩
  clear c0 c1 c2 c3 c4 c5 d0 d1 d2 d3 d4 d5
  have B2 := (Blk.new w3 (us [1, 0, 0, 0, 0, 0, 0, 0, 0, 0, 0, 0]) 39 w3.heap.size rfl).later hb
  replace B0 := (B0.alloc _).later hb
  replace B1 := (B1.alloc _).later hb
  replace bel := (bel.alloc (by omega) _).trans (hb.mono (by simp <;> omega))
  have HP : Hid _ := hP
  clear hb z0 z1 hP
  have z0 := B0.lt
  have z1 := B1.lt
  have B3 := Blk.new w4 (us [p0, p1, p2, p3, p4, p5, p6, p7, p8, p9, p10, p11]) 39 w4.heap.size rfl
  replace B0 := B0.alloc (.cells (us [p0, p1, p2, p3, p4, p5, p6, p7, p8, p9, p10, p11]).toArray 39)
  replace B1 := B1.alloc (.cells (us [p0, p1, p2, p3, p4, p5, p6, p7, p8, p9, p10, p11]).toArray 39)
  replace B2 := B2.alloc (.cells (us [p0, p1, p2, p3, p4, p5, p6, p7, p8, p9, p10, p11]).toArray 39)
  replace bel := bel.alloc (by omega) (.cells (us [p0, p1, p2, p3, p4, p5, p6, p7, p8, p9, p10, p11]).toArray 39)
  go_wp2_with fail
  simp only [us, List.map_cons, List.map_nil] at B0 B1 B2 B3 bel
  generalize w4.alloc (Obj.cells #[.int .u64 p0, .int .u64 p1, .int .u64 p2, .int .u64 p3, .int .u64 p4, .int .u64 p5, .int .u64 p6, .int .u64 p7, .int .u64 p8, .int .u64 p9, .int .u64 p10, .int .u64 p11] 39) = W3 at *
  obtain ⟨b6, hb6⟩ : ∃ b, b = w4.heap.size := ⟨_, rfl⟩
  obtain ⟨b5, hb5⟩ : ∃ b, b = w3.heap.size := ⟨_, rfl⟩
  rw [← hb6] at B3 ⊢
  rw [← hb5] at B2 ⊢
  have hsz := B1.lt
  obtain ⟨c0, c1, c2, c3, c4, c5⟩ := B0.cells6
  obtain ⟨e0, e1, e2, e3, e4, e5⟩ := B1.cells6
  clear z0 z1 hb6 hb5
  go_region_held3 (fun wx => wx.cell? ⟨w.heap.size, 0, none⟩ = some (.int .u64 x0) ∧ wx.cell? ⟨w.heap.size, 1, none⟩ = some (.int .u64 x1) ∧ wx.cell? ⟨w.heap.size, 2, none⟩ = some (.int .u64 x2) ∧ wx.cell? ⟨w.heap.size, 3, none⟩ = some (.int .u64 x3) ∧ wx.cell? ⟨w.heap.size, 4, none⟩ = some (.int .u64 x4) ∧ wx.cell? ⟨w.heap.size, 5, none⟩ = some (.int .u64 x5) ∧ wx.cell? ⟨w.heap.size + 1, 0, none⟩ = some (.int .u64 y0) ∧ wx.cell? ⟨w.heap.size + 1, 1, none⟩ = some (.int .u64 y1) ∧ wx.cell? ⟨w.heap.size + 1, 2, none⟩ = some (.int .u64 y2) ∧ wx.cell? ⟨w.heap.size + 1, 3, none⟩ = some (.int .u64 y3) ∧ wx.cell? ⟨w.heap.size + 1, 4, none⟩ = some (.int .u64 y4) ∧ wx.cell? ⟨w.heap.size + 1, 5, none⟩ = some (.int .u64 y5) ∧ w.heap.size + 1 < wx.heap.size ∧ Below w.heap.size w wx ∧ Blk wx b5 (us [1, 0, 0, 0, 0, 0, 0, 0, 0, 0, 0, 0]) ∧ Blk wx b6 (us [p0, p1, p2, p3, p4, p5, p6, p7, p8, p9, p10, p11]) ∧ Blk wx w.heap.size (us [x0, x1, x2, x3, x4, x5]) ∧ Blk wx (w.heap.size + 1) (us [y0, y1, y2, y3, y4, y5]))
    (first | (exact ⟨c0, c1, c2, c3, c4, c5, e0, e1, e2, e3, e4, e5, hsz, bel.drew, B2.drew, B3.drew, B0.drew, B1.drew⟩) | (go_split_ands; refine ⟨?_, ?_, ?_, ?_, ?_, ?_, ?_, ?_, ?_, ?_, ?_, ?_, ?_, ?_, ?_, ?_, ?_, ?_⟩ <;> first | assumption | (rw [hb.cell (by first | assumption | omega | (simp <;> omega))]; assumption) | (have := hb.size; omega) | (refine Below.trans (by assumption) (hb.mono (by omega))) | (refine Blk.later (by assumption) hb)))
    (first
      | (go_at_call 12; have hN1 := hN; refine (of66 (by first | exact hx | exact hy)).mono ?_; rintro e w' ⟨v2, rfl, hN2, hb⟩; replace hN1 := hN1.later hb)
      | (go_at_call 12; refine (of66 (by first | exact hx | exact hy)).mono ?_; rintro e w' ⟨v1, rfl, hN, hb⟩)
      | (go_at_call 21; refine (rmul_any _ _ _ _ _ hN1 hN2 hbd3 hbd4).mono ?_; rintro e w' ⟨v3, rfl, hN3, hb⟩))
  all_goals go_split_ands
  clear B0 B1 B2 B3 bel hsz c0 c1 c2 c3 c4 c5 e0 e1 e2 e3 e4 e5 hb hN1 hN2 hN
  have B0 : Blk w' w.heap.size (us [x0, x1, x2, x3, x4, x5]) := by assumption
  have B1 : Blk w' (w.heap.size + 1) (us [y0, y1, y2, y3, y4, y5]) := by assumption
  have B2 : Blk w' b5 (us [1, 0, 0, 0, 0, 0, 0, 0, 0, 0, 0, 0]) := by assumption
  have B3 : Blk w' b6 (us [p0, p1, p2, p3, p4, p5, p6, p7, p8, p9, p10, p11]) := by assumption
  have bel : Below w.heap.size w w' := by assumption
  have q2 := eql_same12 p0 p1 p2 p3 p4 p5 p6 p7 p8 p9 p10 p11
  have hrev : v64 [p0, p1, p2, p3, p4, p5, p6, p7, p8, p9, p10, p11] = v64 [y0, y1, y2, y3, y4, y5] * v64 [x0, x1, x2, x3, x4, x5] := by rw [HP.out, Int.mul_comm]
  have HR : Hid _ := hrev
  have HC : Hid _ := cmpN_eq (X := v64 [p0, p1, p2, p3, p4, p5, p6, p7, p8, p9, p10, p11]) (Y := v64 [x0, x1, x2, x3, x4, x5] * v64 [y0, y1, y2, y3, y4, y5]) HP.out
  clear hrev
  go_wp2_with fail
  have hsz := B1.lt
  have x0' := B2.cell 0 _ rfl
  obtain ⟨c0, c1, c2, c3, c4, c5⟩ := B0.cells6
  obtain ⟨e0, e1, e2, e3, e4, e5⟩ := B1.cells6
  obtain ⟨f0, f1, f2, f3, f4, f5, f6, f7, f8, f9, f10, f11⟩ := B3.cells12
  clear B2
  go_region_with (first
      | (go_at_call 22; refine (of12z fP).mono ?_; rintro e wn ⟨v9, rfl, hN9, hb⟩; (first | replace B0 := B0.later hb | replace B0 := B0.drew.later hb); (first | replace B1 := B1.later hb | replace B1 := B1.drew.later hb); (first | replace B3 := B3.later hb | replace B3 := B3.drew.later hb); (first | replace hN3 := hN3.later hb | replace hN3 := hN3.drew.later hb); (first | replace bel := bel.trans (hb.mono (by omega)) | replace bel := bel.drew.trans (hb.mono (by simp <;> omega))); have hsz := B1.lt; obtain ⟨c0, c1, c2, c3, c4, c5⟩ := B0.cells6; obtain ⟨e0, e1, e2, e3, e4, e5⟩ := B1.cells6; obtain ⟨f0, f1, f2, f3, f4, f5, f6, f7, f8, f9, f10, f11⟩ := B3.cells12)
      | (go_at_call 17; refine (cmp_any _ _ _ _ _ hN9 hN3).mono ?_; rintro e wn ⟨rfl, hb⟩; rw [← HC.out]; (first | replace B0 := B0.later hb | replace B0 := B0.drew.later hb); (first | replace B1 := B1.later hb | replace B1 := B1.drew.later hb); (first | replace B3 := B3.later hb | replace B3 := B3.drew.later hb); (first | replace hN3 := hN3.later hb | replace hN3 := hN3.drew.later hb); (first | replace bel := bel.trans (hb.mono (by omega)) | replace bel := bel.drew.trans (hb.mono (by simp <;> omega))); have hsz := B1.lt; obtain ⟨c0, c1, c2, c3, c4, c5⟩ := B0.cells6; obtain ⟨e0, e1, e2, e3, e4, e5⟩ := B1.cells6; obtain ⟨f0, f1, f2, f3, f4, f5, f6, f7, f8, f9, f10, f11⟩ := B3.cells12)
      | (go_at_call 20; refine (mulz hy hx fP HR.out).mono ?_; rintro e wn ⟨rfl, hb⟩; (first | replace B0 := B0.later hb | replace B0 := B0.drew.later hb); (first | replace B1 := B1.later hb | replace B1 := B1.drew.later hb); (first | replace B3 := B3.later hb | replace B3 := B3.drew.later hb); (first | replace hN3 := hN3.later hb | replace hN3 := hN3.drew.later hb); (first | replace bel := bel.trans (hb.mono (by omega)) | replace bel := bel.drew.trans (hb.mono (by simp <;> omega))); have hsz := B1.lt; obtain ⟨c0, c1, c2, c3, c4, c5⟩ := B0.cells6; obtain ⟨e0, e1, e2, e3, e4, e5⟩ := B1.cells6; obtain ⟨f0, f1, f2, f3, f4, f5, f6, f7, f8, f9, f10, f11⟩ := B3.cells12))
  all_goals go_wp2
  all_goals (go_ret; exact ⟨rfl, bel⟩)
end Go.Proofs.Ytlgcbnciehndgaa
