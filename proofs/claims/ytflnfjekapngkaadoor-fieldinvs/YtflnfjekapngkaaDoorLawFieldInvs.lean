/- The law FieldInvs answers true: what makes 1 of any number, and that it does; 0 of what leaves nothing. -/
import Derived.Test.YtflnfjekapngkaaDoorRows
import Derived.Test.YtflnfjekapngkaaDoorFLaw
import Derived.Test.YtflnfjekapngkaaDoorFInv
import Derived.Test.YtflnfjekapngkaaDoorFInvA
import Derived.Test.YtflnfjekapngkaaDoorFMul
import Derived.Test.YtflnfjekapngkaaDoorFRest
import Derived.Test.YtflnfjekapngkaaDoorRCmp
import Derived.Deep.WholeRow
import Derived.Deep.RegionHeld3
import Derived.Deep.DeepCutAuto
import Derived.Deep.DeepFit
namespace Go.Proofs.YtflnfjekapngkaaDoor
open Go.RowKit

set_option maxRecDepth 100000 in
set_option maxHeartbeats 8000000 in
theorem law_fieldInvs (x0 x1 x2 x3 x4 x5 : Int) (w : World) (G : Gls w) (fX : fits [x0, x1, x2, x3, x4, x5]) :
    Calls Tryd.prog 6 #[.agg #[.int .u64 x0, .int .u64 x1, .int .u64 x2, .int .u64 x3, .int .u64 x4, .int .u64 x5]] w fun e w' => e = .returned (.bool true) ∧ Below w.heap.size w w' := by
  have B0 := Blk.new w (us [x0, x1, x2, x3, x4, x5]) 24 (w.heap.size) rfl
  have bel : Below w.heap.size w (w.alloc (.cells (us [x0, x1, x2, x3, x4, x5]).toArray 24)) := (Below.refl _ _).alloc (Nat.le_refl _) _
  go_enter Tryd.func6, Tryd.ntmps6
  go_upto_region 1 with fail
  simp only [us, List.map_cons, List.map_nil] at B0 bel
  generalize w.alloc (Obj.cells #[.int .u64 x0, .int .u64 x1, .int .u64 x2, .int .u64 x3, .int .u64 x4, .int .u64 x5] 24) = W at *
  have x0' := (v6_bound _ rfl fX).1
  have HX : Hid (0 ≤ v64 [x0, x1, x2, x3, x4, x5]) := x0'
  clear x0'
  obtain ⟨c0, c1, c2, c3, c4, c5⟩ := B0.cells6
  go_wp2_with fail
  refine (finv6 (G.below bel) fX).mono ?_
  rintro e w1 ⟨z0, z1, z2, z3, z4, z5, rfl, fZ, hz, hb⟩
  have HZ : Hid (Out (v64 [x0, x1, x2, x3, x4, x5]) 39402006196394479212279040100143613805079739270465446667948293404245721771496870329047266088258938001861606973112317 (v64 [z0, z1, z2, z3, z4, z5])) := hz
  clear hz c0 c1 c2 c3 c4 c5
  replace B0 := B0.later hb
  replace bel := below_step bel hb
  clear hb
  obtain ⟨c0, c1, c2, c3, c4, c5⟩ := B0.cells6
  have lt0 := B0.lt
  go_wp2_with fail
  clear c0 c1 c2 c3 c4 c5 lt0
  have ltbi := B0.lt
  replace B0 := B0.alloc (.cells (us [z0, z1, z2, z3, z4, z5]).toArray 24)
  have Bi := Blk.new w1 (us [z0, z1, z2, z3, z4, z5]) 24 w1.heap.size rfl
  replace bel := below_alloc (o := .cells (us [z0, z1, z2, z3, z4, z5]).toArray 24) bel
  simp only [us, List.map_cons, List.map_nil] at B0 Bi bel
  obtain ⟨bi, hbi⟩ : ∃ b, b = w1.heap.size := ⟨_, rfl⟩
  generalize w1.alloc (Obj.cells #[.int .u64 z0, .int .u64 z1, .int .u64 z2, .int .u64 z3, .int .u64 z4, .int .u64 z5] 24) = Wi at *
  rw [← hbi] at Bi ltbi ⊢
  clear hbi
  refine (fmul6 (G.below bel) fX fZ).mono ?_
  rintro e w2 ⟨p0, p1, p2, p3, p4, p5, rfl, fP2, hp, hb⟩
  have HP : Hid _ := hp
  clear hp
  replace B0 := B0.later hb
  replace Bi := Bi.later hb
  replace bel := below_step bel hb
  clear hb
  obtain ⟨c0, c1, c2, c3, c4, c5⟩ := B0.cells6
  have lt0 := B0.lt
  have lti := Bi.lt
  go_wp2_with fail
  clear c0 c1 c2 c3 c4 c5 lt0
  have ltbi2 : bi < w2.heap.size := lti
  clear lti
  have ltbp := B0.lt
  replace B0 := B0.alloc (.cells (us [p0, p1, p2, p3, p4, p5]).toArray 24)
  replace Bi := Bi.alloc (.cells (us [p0, p1, p2, p3, p4, p5]).toArray 24)
  have Bp := Blk.new w2 (us [p0, p1, p2, p3, p4, p5]) 24 w2.heap.size rfl
  replace bel := below_alloc (o := .cells (us [p0, p1, p2, p3, p4, p5]).toArray 24) bel
  simp only [us, List.map_cons, List.map_nil] at B0 Bi Bp bel
  obtain ⟨bp, hbp⟩ : ∃ b, b = w2.heap.size := ⟨_, rfl⟩
  generalize w2.alloc (Obj.cells #[.int .u64 p0, .int .u64 p1, .int .u64 p2, .int .u64 p3, .int .u64 p4, .int .u64 p5] 24) = Wp at *
  rw [← hbp] at Bp ltbp ltbi2 ⊢
  clear hbp
  have ltip : bi < bp := by omega
  refine (frest6 (G.below bel) fX).mono ?_
  rintro e w3 ⟨r0, r1, r2, r3, r4, r5, rfl, fR, hr, hb⟩
  have HR : Hid _ := hr
  clear hr
  replace Bi := Bi.later hb
  replace Bp := Bp.later hb
  replace bel := below_step bel hb
  clear hb B0
  obtain ⟨S1, hS1, KL1, KA1, KD1, KS1, KP1, KN1, KB1, KM1, KW1⟩ := held_mk (w0 := w) (W := w3) [(bi, [z0, z1, z2, z3, z4, z5]), (bp, [p0, p1, p2, p3, p4, p5])] [] (by
    intro b X h
    simp only [List.mem_cons, List.not_mem_nil, or_false, Prod.mk.injEq] at h
    rcases h with ⟨rfl, rfl⟩ | ⟨rfl, rfl⟩
    · exact Bi
    · exact Bp) (by
    intro b h
    exact absurd h (by simp)) (by
    intro b X h
    simp) bel
  obtain ⟨c1a0, c1a1, c1a2, c1a3, c1a4, c1a5, c1a6⟩ := rule6 (S := Hd S1) (b := bi) (x0 := z0) (x1 := z1) (x2 := z2) (x3 := z3) (x4 := z4) (x5 := z5) (fun wx h => KM1.out wx _ _ h (by simp))
  obtain ⟨c1b0, c1b1, c1b2, c1b3, c1b4, c1b5, c1b6⟩ := rule6 (S := Hd S1) (b := bp) (x0 := p0) (x1 := p1) (x2 := p2) (x3 := p3) (x4 := p4) (x5 := p5) (fun wx h => KM1.out wx _ _ h (by simp))
  clear Bi Bp bel
  have OI : Hid _ := out_inv HX.out HZ.out
  by_cases hc : [r0, r1, r2, r3, r4, r5] = [0, 0, 0, 0, 0, 0]
  · have zq : v64 [x0, x1, x2, x3, x4, x5] % PP = 0 := by rw [← HR.out, hc]; rfl
    have ez : [z0, z1, z2, z3, z4, z5] = [0, 0, 0, 0, 0, 0] := v64_inj _ _ rfl fZ (fits_zero 6) (OI.out.1 zq)
    clear zq OI HZ HP HR
    simp only [List.cons.injEq, and_true] at hc ez
    obtain ⟨rfl, rfl, rfl, rfl, rfl, rfl⟩ := hc
    obtain ⟨rfl, rfl, rfl, rfl, rfl, rfl⟩ := ez
    have q0 := eql_same 0 0 0 0 0 0
    go_wp2_with fail
    refine (two_any (G.below (KB1.out _ hS1))).mono ?_
    rintro e w9 ⟨rfl, hb⟩
    have hS2 := KL1.out _ _ hS1 hb
    clear hb hS1
    go_wp2_with fail
    go_ret
    exact ⟨rfl, KB1.out _ hS2⟩
  · have zq : v64 [x0, x1, x2, x3, x4, x5] % PP ≠ 0 := fun h => hc (v64_inj _ _ rfl fR (fits_zero 6) (by rw [HR.out, h]; rfl))
    have ep : [p0, p1, p2, p3, p4, p5] = [1, 0, 0, 0, 0, 0] := v64_inj _ _ rfl fP2 fits_one (by rw [HP.out, OI.out.2 zq]; rfl)
    have HL : Hid _ := out_lt HZ.out
    have qn := eql_not hc
    clear zq OI HZ HP HR hc
    simp only [List.cons.injEq, and_true] at ep
    obtain ⟨rfl, rfl, rfl, rfl, rfl, rfl⟩ := ep
    have q0 := eql_same 1 0 0 0 0 0
    go_wp2_with fail
    refine (two_any (G.below (KB1.out _ hS1))).mono ?_
    rintro e w9 ⟨rfl, hb⟩
    have hS2 := KL1.out _ _ hS1 hb
    clear hb hS1
    go_wp2_with fail
    refine (num6 fZ).mono ?_
    rintro e w10 ⟨va, rfl, NA, hb⟩
    have hS3 := KL1.out _ _ hS2 hb
    clear hb hS2
    go_wp2_with fail
    refine p_any.mono ?_
    rintro e w11 ⟨vb, rfl, NB, hb⟩
    have hS4 := KL1.out _ _ hS3 hb
    replace NA := NA.later hb
    clear hb hS3
    go_wp2_with fail
    refine (cmp_any _ _ _ _ _ NA NB).mono ?_
    rintro e w12 ⟨rfl, hb⟩
    have hS5 := KL1.out _ _ hS4 hb
    have hl : cmpN (v64 [z0, z1, z2, z3, z4, z5]) PP < 0 := cmp_neg HL.out
    have hd : decide (cmpN (v64 [z0, z1, z2, z3, z4, z5]) PP < 0) = true := decide_eq_true hl
    clear hb hS4
    go_wp2_with fail
    go_ret
    exact ⟨rfl, KB1.out _ hS5⟩
end Go.Proofs.YtflnfjekapngkaaDoor
