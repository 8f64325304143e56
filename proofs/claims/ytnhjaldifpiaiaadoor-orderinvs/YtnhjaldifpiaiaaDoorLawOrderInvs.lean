/- The law OrderInvs answers true: what makes 1 of any number, and that it does; 0 of what leaves nothing; that of a product is the product of those. -/
import Derived.Test.YtnhjaldifpiaiaaDoorRows
import Derived.Test.YtnhjaldifpiaiaaDoorOLaw
import Derived.Test.YtnhjaldifpiaiaaDoorOInv
import Derived.Test.YtnhjaldifpiaiaaDoorOAdd
import Derived.Test.YtnhjaldifpiaiaaDoorRefA
import Derived.Deep.WholeRow
import Derived.Deep.RegionHeld3
import Derived.Deep.DeepCutAuto
import Derived.Deep.DeepFit
namespace Go.Proofs.YtnhjaldifpiaiaaDoor
open Go.RowKit

theorem inv_mul {X Y m u z v t : Int} {e : Nat} (hm : m = (X * Y) % QQ) (hu : OutO m e u) (hz : OutO X e z) (hv : OutO Y e v) (ht : t = (z * v) % QQ) : u = t := by
  unfold OutO at hu hz hv
  rw [hu, hm, pow_emod, Int.mul_pow, ht, hz, hv, ← Int.mul_emod]

set_option maxRecDepth 100000 in
set_option maxHeartbeats 8000000 in
theorem law_orderInvs (x0 x1 x2 x3 x4 x5 y0 y1 y2 y3 y4 y5 : Int) (w : World) (G : GlsO w) (fX : fits [x0, x1, x2, x3, x4, x5]) (fY : fits [y0, y1, y2, y3, y4, y5]) :
    Calls Tryd.prog 6 #[.agg #[.int .u64 x0, .int .u64 x1, .int .u64 x2, .int .u64 x3, .int .u64 x4, .int .u64 x5], .agg #[.int .u64 y0, .int .u64 y1, .int .u64 y2, .int .u64 y3, .int .u64 y4, .int .u64 y5]] w fun e w' => e = .returned (.bool true) ∧ Below w.heap.size w w' := by
  have B0 := (Blk.new w (us [x0, x1, x2, x3, x4, x5]) 24 (w.heap.size) rfl).alloc (.cells (us [y0, y1, y2, y3, y4, y5]).toArray 24)
  have B1 := Blk.new (w.alloc (.cells (us [x0, x1, x2, x3, x4, x5]).toArray 24)) (us [y0, y1, y2, y3, y4, y5]) 24 (w.heap.size + 1) (by simp)
  have bel : Below w.heap.size w ((w.alloc (.cells (us [x0, x1, x2, x3, x4, x5]).toArray 24)).alloc (.cells (us [y0, y1, y2, y3, y4, y5]).toArray 24)) := ((Below.refl _ _).alloc (Nat.le_refl _) _).alloc (by simp) _
  go_enter Tryd.func6, Tryd.ntmps6
  go_upto_region 1 with fail
  simp only [us, List.map_cons, List.map_nil] at B0 B1 bel
  generalize (w.alloc (Obj.cells #[.int .u64 x0, .int .u64 x1, .int .u64 x2, .int .u64 x3, .int .u64 x4, .int .u64 x5] 24)).alloc (Obj.cells #[.int .u64 y0, .int .u64 y1, .int .u64 y2, .int .u64 y3, .int .u64 y4, .int .u64 y5] 24) = W at *
  have x0' := (v6_bound _ rfl fX).1
  have HX : Hid (0 ≤ v64 [x0, x1, x2, x3, x4, x5]) := x0'
  clear x0'
  obtain ⟨c0, c1, c2, c3, c4, c5⟩ := B0.cells6
  go_wp2_with fail
  refine (oinv6 (G.below bel) fX).mono ?_
  rintro e w1 ⟨z0, z1, z2, z3, z4, z5, rfl, fZ, hz, hb⟩
  have HZ : Hid (OutO (v64 [x0, x1, x2, x3, x4, x5]) 39402006196394479212279040100143613805079739270465446667946905279627659399113263569398956308152294913554433653942641 (v64 [z0, z1, z2, z3, z4, z5])) := hz
  clear hz c0 c1 c2 c3 c4 c5
  replace B0 := B0.later hb
  replace B1 := B1.later hb
  replace bel := below_step bel hb
  clear hb
  obtain ⟨c0, c1, c2, c3, c4, c5⟩ := B0.cells6
  have lt0 := B0.lt
  have lt1 := B1.lt
  go_wp2_with fail
  clear c0 c1 c2 c3 c4 c5
  replace B0 := B0.alloc (.cells (us [z0, z1, z2, z3, z4, z5]).toArray 24)
  replace B1 := B1.alloc (.cells (us [z0, z1, z2, z3, z4, z5]).toArray 24)
  have Bi := Blk.new w1 (us [z0, z1, z2, z3, z4, z5]) 24 w1.heap.size rfl
  replace bel := below_alloc (o := .cells (us [z0, z1, z2, z3, z4, z5]).toArray 24) bel
  simp only [us, List.map_cons, List.map_nil] at B0 B1 Bi bel
  obtain ⟨bi, hbi⟩ : ∃ b, b = w1.heap.size := ⟨_, rfl⟩
  generalize w1.alloc (Obj.cells #[.int .u64 z0, .int .u64 z1, .int .u64 z2, .int .u64 z3, .int .u64 z4, .int .u64 z5] 24) = Wi at *
  rw [← hbi] at Bi lt0 lt1 ⊢
  clear hbi
  refine (orest6 (G.below bel) fX).mono ?_
  rintro e w3 ⟨r0, r1, r2, r3, r4, r5, rfl, fR, hr, hb⟩
  have HR : Hid _ := hr
  clear hr
  replace B0 := B0.later hb
  replace B1 := B1.later hb
  replace Bi := Bi.later hb
  replace bel := below_step bel hb
  clear hb
  obtain ⟨S1, hS1, KL1, KA1, KD1, KS1, KP1, KN1, KB1, KM1, KW1⟩ := held_mk (w0 := w) (W := w3) [(w.heap.size, [x0, x1, x2, x3, x4, x5]), (w.heap.size + 1, [y0, y1, y2, y3, y4, y5]), (bi, [z0, z1, z2, z3, z4, z5])] [] (by
    intro b X h
    simp only [List.mem_cons, List.not_mem_nil, or_false, Prod.mk.injEq] at h
    rcases h with ⟨rfl, rfl⟩ | ⟨rfl, rfl⟩ | ⟨rfl, rfl⟩
    · exact B0
    · exact B1
    · exact Bi) (by
    intro b h
    exact absurd h (by simp)) (by
    intro b X h
    simp) bel
  obtain ⟨c1a0, c1a1, c1a2, c1a3, c1a4, c1a5, c1a6⟩ := rule6 (S := Hd S1) (b := w.heap.size) (x0 := x0) (x1 := x1) (x2 := x2) (x3 := x3) (x4 := x4) (x5 := x5) (fun wx h => KM1.out wx _ _ h (by simp))
  obtain ⟨c1b0, c1b1, c1b2, c1b3, c1b4, c1b5, c1b6⟩ := rule6 (S := Hd S1) (b := w.heap.size + 1) (x0 := y0) (x1 := y1) (x2 := y2) (x3 := y3) (x4 := y4) (x5 := y5) (fun wx h => KM1.out wx _ _ h (by simp))
  obtain ⟨c1c0, c1c1, c1c2, c1c3, c1c4, c1c5, c1c6⟩ := rule6 (S := Hd S1) (b := bi) (x0 := z0) (x1 := z1) (x2 := z2) (x3 := z3) (x4 := z4) (x5 := z5) (fun wx h => KM1.out wx _ _ h (by simp))
  have hN1 := bel.size
  clear B0 B1 Bi bel
  have OI : Hid _ := oout_inv HX.out HZ.out
  by_cases hc : [r0, r1, r2, r3, r4, r5] = [0, 0, 0, 0, 0, 0]
  · have zq : v64 [x0, x1, x2, x3, x4, x5] % QQ = 0 := by rw [← HR.out, hc]; rfl
    have ez : [z0, z1, z2, z3, z4, z5] = [0, 0, 0, 0, 0, 0] := v64_inj _ _ rfl fZ (fits_zero 6) (OI.out.1 zq)
    clear zq OI HZ HR
    simp only [List.cons.injEq, and_true] at hc ez
    obtain ⟨rfl, rfl, rfl, rfl, rfl, rfl⟩ := hc
    obtain ⟨rfl, rfl, rfl, rfl, rfl, rfl⟩ := ez
    have q0 := eql_same 0 0 0 0 0 0
    go_wp2_with fail
    refine (five_any (G.below (KB1.out _ hS1))).mono ?_
    rintro e w9 ⟨rfl, hb⟩
    have hS2 := KL1.out _ _ hS1 hb
    clear hb hS1
    go_wp2_with fail
    go_ret
    exact ⟨rfl, KB1.out _ hS2⟩
  · have zq : v64 [x0, x1, x2, x3, x4, x5] % QQ ≠ 0 := fun h => hc (v64_inj _ _ rfl fR (fits_zero 6) (by rw [HR.out, h]; rfl))
    have HL : Hid _ := oout_lt HZ.out
    have HZQ : Hid _ := zq
    have qn := eql_not hc
    clear HR hc zq
    go_wp2_with fail
    refine (omul6 (G.below (KB1.out _ hS1)) fX fZ).mono ?_
    rintro e w4 ⟨p0, p1, p2, p3, p4, p5, rfl, fP2, hp, hb⟩
    have ep : [p0, p1, p2, p3, p4, p5] = [1, 0, 0, 0, 0, 0] := v64_inj _ _ rfl fP2 fits_one (by rw [hp, OI.out.2 HZQ.out]; rfl)
    clear hp OI HZQ qn
    simp only [List.cons.injEq, and_true] at ep
    obtain ⟨rfl, rfl, rfl, rfl, rfl, rfl⟩ := ep
    have q0 := eql_same 1 0 0 0 0 0
    have hS2 := KL1.out _ _ hS1 hb
    clear hb hS1
    go_wp2_with fail
    refine (num6o fZ).mono ?_
    rintro e w10 ⟨va, rfl, NA, hb⟩
    have hS3 := KL1.out _ _ hS2 hb
    clear hb hS2
    go_wp2_with fail
    refine n_any.mono ?_
    rintro e w11 ⟨vb, rfl, NB, hb⟩
    have hS4 := KL1.out _ _ hS3 hb
    replace NA := NA.later hb
    clear hb hS3
    go_wp2_with fail
    refine (cmp_any _ _ _ _ _ NA NB).mono ?_
    rintro e w12 ⟨rfl, hb⟩
    have hS1 := KL1.out _ _ hS4 hb
    have hl : cmpN (v64 [z0, z1, z2, z3, z4, z5]) QQ < 0 := cmp_neg HL.out
    have hd : decide (cmpN (v64 [z0, z1, z2, z3, z4, z5]) QQ < 0) = true := decide_eq_true hl
    clear hb hS4 NA NB
    go_upto_region 5 with fail
    clear hl hd q0
    go_region_held3 (Hd S1)
      (first
        | with_reducible exact KP1.out _ _ _ _ _ _ _ _ (by assumption) (by first | (right; simp; done) | (left; omega)) (by omega)
        | with_reducible exact KL1.out _ _ (by assumption) hb
        | with_reducible exact KA1.out _ _ (by assumption)
        | with_reducible exact KS1.out _ _ _ (by omega) (by assumption)
        | with_reducible exact KD1.out _ hS1
        | with_reducible exact KD1.out _ (KA1.out _ _ hS1)
        | with_reducible assumption)
      (first
        | (go_at_call 25; go_fit (five_any (G.below (KB1.out _ (by first | with_reducible assumption | with_reducible exact KA1.out _ _ (by assumption) | with_reducible exact KD1.out _ (by assumption))))); rintro e w' ⟨rfl, hb⟩)
        | (go_at_call 26; go_fit (omul6 (G.below (KB1.out _ (by first | with_reducible assumption | with_reducible exact KA1.out _ _ (by assumption) | with_reducible exact KD1.out _ (by assumption)))) fX fY); rintro e w' ⟨m0, m1, m2, m3, m4, m5, rfl, fM, hv, hb⟩; have HM : Hid _ := hv; clear hv)
        | (go_at_call 28; go_fit (oinv6 (G.below (KB1.out _ (by first | with_reducible assumption | with_reducible exact KA1.out _ _ (by assumption) | with_reducible exact KD1.out _ (by assumption)))) fM); rintro e w' ⟨o0, o1, o2, o3, o4, o5, rfl, fU, hv, hb⟩; have HU : Hid _ := hv; clear hv)
        | (go_at_call 28; go_fit (oinv6 (G.below (KB1.out _ (by first | with_reducible assumption | with_reducible exact KA1.out _ _ (by assumption) | with_reducible exact KD1.out _ (by assumption)))) fY); rintro e w' ⟨v0, v1, v2, v3, v4, v5, rfl, fV, hv, hb⟩; have HV : Hid _ := hv; clear hv)
        | (go_at_call 26; go_fit (omul6 (G.below (KB1.out _ (by first | with_reducible assumption | with_reducible exact KA1.out _ _ (by assumption) | with_reducible exact KD1.out _ (by assumption)))) fZ fV); rintro e w' ⟨t0, t1, t2, t3, t4, t5, rfl, fT, hv, hb⟩; (have eq : [o0, o1, o2, o3, o4, o5] = [t0, t1, t2, t3, t4, t5] := (by refine v64_inj _ _ rfl fU fT ?_; exact inv_mul HM.out HU.out HZ.out HV.out hv)); simp only [List.cons.injEq, and_true] at eq; obtain ⟨rfl, rfl, rfl, rfl, rfl, rfl⟩ := eq; have qa := eql_same o0 o1 o2 o3 o4 o5; clear hv))
    all_goals go_wp2
    all_goals (go_ret; exact ⟨rfl, KB1.out _ (by assumption)⟩)
end Go.Proofs.YtnhjaldifpiaiaaDoor
