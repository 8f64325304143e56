/- field.Root: the even root, or that there is none. -/
import Derived.Test.YtpgidlnpcjbfhabDoorRows
import Derived.Test.YtpgidlnpcjbfhabDoorFPowers
import Derived.Test.YtpgidlnpcjbfhabDoorFMulR
import Derived.Test.YtpgidlnpcjbfhabDoorFAdd
import Derived.Test.YtpgidlnpcjbfhabDoorLimb
import Derived.Test.YtpgidlnpcjbfhabDoorMOff
import Derived.Deep.WholeRow
import Derived.Deep.RegionHeld3
import Derived.Deep.DeepCutAuto
import Derived.Deep.DeepFit
namespace Go.Proofs.YtpgidlnpcjbfhabDoor
open Go.RowKit

theorem root_exp {a z : Int} {e1 e3 : Nat} (h : e1 = 1 ∧ e3 = 497323236409786642155382248146820840100456150797347717440463976893159497012529080565759) (k : Out a ((e3 * 2 ^ Int.toNat 64 + e1) * 2 ^ Int.toNat 30) z) : Out a 9850501549098619803069760025035903451269934817616361666987073351061430442874217582261816522064734500465401743278080 z := by
  obtain ⟨rfl, rfl⟩ := h
  have e : (497323236409786642155382248146820840100456150797347717440463976893159497012529080565759 * 2 ^ Int.toNat 64 + 1) * 2 ^ Int.toNat 30 = 9850501549098619803069760025035903451269934817616361666987073351061430442874217582261816522064734500465401743278080 := by decide +kernel
  rw [e] at k
  exact k

/-- the even one of a number and the prime less it -/
def evenOf (r : Int) : Int := if r % 2 = 1 then (0 - r) % PP else r

theorem root_same (A B : Int) : Value.bool (decide (sameI A B = 0)) = .bool (decide (A ≠ B)) := by
  unfold sameI
  by_cases h : A = B <;> simp [h]

theorem bit0_is {x0 x1 x2 x3 x4 x5 : Int} : bitN [x0, x1, x2, x3, x4, x5] 0 = v64 [x0, x1, x2, x3, x4, x5] % 2 := by
  have := bitN_in [x0, x1, x2, x3, x4, x5] 0 (by decide)
  rw [show ((0 : Nat) : Int) = 0 from rfl] at this
  rw [this]
  simp [v64, pv]
  omega

theorem bit0_bd {x0 x1 x2 x3 x4 x5 : Int} : 0 ≤ bitN [x0, x1, x2, x3, x4, x5] 0 ∧ bitN [x0, x1, x2, x3, x4, x5] 0 < 18446744073709551616 := by
  rw [bit0_is]; omega

theorem root_pick {x0 x1 x2 x3 x4 x5 y0 y1 y2 y3 y4 y5 z0 z1 z2 z3 z4 z5 : Int} (hy : v64 [y0, y1, y2, y3, y4, y5] = (0 - v64 [x0, x1, x2, x3, x4, x5]) % PP) (hp : pk (bitN [x0, x1, x2, x3, x4, x5] 0) [x0, x1, x2, x3, x4, x5] [y0, y1, y2, y3, y4, y5] = [z0, z1, z2, z3, z4, z5]) : v64 [z0, z1, z2, z3, z4, z5] = evenOf (v64 [x0, x1, x2, x3, x4, x5]) := by
  rw [← hp, bit0_is]
  unfold pk evenOf oddB
  by_cases h : v64 [x0, x1, x2, x3, x4, x5] % 2 = 1
  · rw [if_pos h, h, ← hy]; simp
  · rw [if_neg h, show v64 [x0, x1, x2, x3, x4, x5] % 2 = 0 by omega]; simp

set_option maxRecDepth 100000 in
set_option maxHeartbeats 2000000 in
theorem froot6 {x0 x1 x2 x3 x4 x5 : Int} {w : World} (G : Gls w) (fX : fits [x0, x1, x2, x3, x4, x5]) :
    Calls Tryd.prog 19 #[.agg #[.int .u64 x0, .int .u64 x1, .int .u64 x2, .int .u64 x3, .int .u64 x4, .int .u64 x5]] w fun e w' => ∃ s0 s1 s2 s3 s4 s5 : Int, fits [s0, s1, s2, s3, s4, s5] ∧ Out (v64 [x0, x1, x2, x3, x4, x5]) 9850501549098619803069760025035903451269934817616361666987073351061430442874217582261816522064734500465401743278080 (v64 [s0, s1, s2, s3, s4, s5]) ∧ (((v64 [s0, s1, s2, s3, s4, s5] * v64 [s0, s1, s2, s3, s4, s5]) % PP ≠ v64 [x0, x1, x2, x3, x4, x5] % PP ∧ e = .returned (.tuple #[.agg #[.int .u64 0, .int .u64 0, .int .u64 0, .int .u64 0, .int .u64 0, .int .u64 0], .iface 54 (.int .i64 17)])) ∨ ((v64 [s0, s1, s2, s3, s4, s5] * v64 [s0, s1, s2, s3, s4, s5]) % PP = v64 [x0, x1, x2, x3, x4, x5] % PP ∧ ∃ z0 z1 z2 z3 z4 z5 : Int, e = .returned (.tuple #[.agg #[.int .u64 z0, .int .u64 z1, .int .u64 z2, .int .u64 z3, .int .u64 z4, .int .u64 z5], .nilIface]) ∧ fits [z0, z1, z2, z3, z4, z5] ∧ v64 [z0, z1, z2, z3, z4, z5] = evenOf (v64 [s0, s1, s2, s3, s4, s5]))) ∧ Below w.heap.size w w' := by
  have B0 := (Blk.new w (us [x0, x1, x2, x3, x4, x5]) 24 (w.heap.size) rfl).alloc (.cells (us [0, 0, 0, 0, 0, 0]).toArray 24)
  have B1 := Blk.new (w.alloc (.cells (us [x0, x1, x2, x3, x4, x5]).toArray 24)) (us [0, 0, 0, 0, 0, 0]) 24 (w.heap.size + 1) (by simp)
  have bel : Below w.heap.size w ((w.alloc (.cells (us [x0, x1, x2, x3, x4, x5]).toArray 24)).alloc (.cells (us [0, 0, 0, 0, 0, 0]).toArray 24)) := ((Below.refl _ _).alloc (Nat.le_refl _) _).alloc (by simp) _
  have WR : Wr6 _ (w.heap.size + 1) := Wr6.of B1
  go_enter Tryd.func19, Tryd.ntmps19
  go_upto_region 1 with fail
  simp only [us, List.map_cons, List.map_nil] at B0 WR bel
  generalize (w.alloc (Obj.cells #[.int .u64 x0, .int .u64 x1, .int .u64 x2, .int .u64 x3, .int .u64 x4, .int .u64 x5] 24)).alloc (Obj.cells #[.int .u64 0, .int .u64 0, .int .u64 0, .int .u64 0, .int .u64 0, .int .u64 0] 24) = W at *
  clear B1
  obtain ⟨c0, c1, c2, c3, c4, c5⟩ := B0.cells6
  go_wp2_with fail
  refine (fpowers6 (G.below bel) fX).mono ?_
  rintro e w1 ⟨p0, p1, p2, p3, p4, p5, q0, q1, q2, q3, q4, q5, r0, r1, r2, r3, r4, r5, rfl, f1, f2, f3, h1, h2, h3, hb⟩
  obtain ⟨e1, e3, h1, h3, HE⟩ : ∃ e1 e3 : Nat, Mo (v64 [x0, x1, x2, x3, x4, x5]) (e1) (v64 [p0, p1, p2, p3, p4, p5]) ∧ Mo (v64 [x0, x1, x2, x3, x4, x5]) (e3) (v64 [r0, r1, r2, r3, r4, r5]) ∧ Hid (e1 = 1 ∧ e3 = 497323236409786642155382248146820840100456150797347717440463976893159497012529080565759) := ⟨1, 497323236409786642155382248146820840100456150797347717440463976893159497012529080565759, h1, h3, rfl, rfl⟩
  have H1 : Hid (Mo (v64 [x0, x1, x2, x3, x4, x5]) (e1) (v64 [p0, p1, p2, p3, p4, p5])) := h1
  have H3 : Hid (Mo (v64 [x0, x1, x2, x3, x4, x5]) (e3) (v64 [r0, r1, r2, r3, r4, r5])) := h3
  clear h1 h2 h3 c0 c1 c2 c3 c4 c5 f2
  have ltr := (WR.later hb).lt
  have lt0 := (B0.later hb).lt
  replace WR := (WR.later hb).alloc (o := .cells (us [p0, p1, p2, p3, p4, p5, q0, q1, q2, q3, q4, q5, r0, r1, r2, r3, r4, r5]).toArray 68)
  replace B0 := (B0.later hb).alloc (.cells (us [p0, p1, p2, p3, p4, p5, q0, q1, q2, q3, q4, q5, r0, r1, r2, r3, r4, r5]).toArray 68)
  have BP := Blk.new w1 (us [p0, p1, p2, p3, p4, p5, q0, q1, q2, q3, q4, q5, r0, r1, r2, r3, r4, r5]) 68 w1.heap.size rfl
  replace bel := below_alloc (o := .cells (us [p0, p1, p2, p3, p4, p5, q0, q1, q2, q3, q4, q5, r0, r1, r2, r3, r4, r5]).toArray 68) (below_step bel hb)
  clear hb
  go_upto_region 2 with (refine wpList_store_row rfl 68 _ _ rfl w1.heap.size #[.int .u64 p0, .int .u64 p1, .int .u64 p2, .int .u64 p3, .int .u64 p4, .int .u64 p5, .int .u64 q0, .int .u64 q1, .int .u64 q2, .int .u64 q3, .int .u64 q4, .int .u64 q5, .int .u64 r0, .int .u64 r1, .int .u64 r2, .int .u64 r3, .int .u64 r4, .int .u64 r5] rfl rfl 68 _ (heap_alloc_last _ _) pow_size rfl (us_one [p0, p1, p2, p3, p4, p5, q0, q1, q2, q3, q4, q5, r0, r1, r2, r3, r4, r5]) ?_; rw [World.setRow_alloc_new])
  simp only [us, List.map_cons, List.map_nil] at WR B0 BP bel
  generalize w1.alloc (Obj.cells #[.int .u64 p0, .int .u64 p1, .int .u64 p2, .int .u64 p3, .int .u64 p4, .int .u64 p5, .int .u64 q0, .int .u64 q1, .int .u64 q2, .int .u64 q3, .int .u64 q4, .int .u64 q5, .int .u64 r0, .int .u64 r1, .int .u64 r2, .int .u64 r3, .int .u64 r4, .int .u64 r5] 68) = W1 at *
  obtain ⟨bp, hbp⟩ : ∃ b, b = w1.heap.size := ⟨_, rfl⟩
  rw [← hbp] at BP ltr lt0 ⊢
  clear hbp
  have ltp := BP.lt
  have k0 := BP.cell 0 _ rfl
  have k1 := BP.cell 1 _ rfl
  have k2 := BP.cell 2 _ rfl
  have k3 := BP.cell 3 _ rfl
  have k4 := BP.cell 4 _ rfl
  have k5 := BP.cell 5 _ rfl
  have k12 := BP.cell 12 _ rfl
  have k13 := BP.cell 13 _ rfl
  have k14 := BP.cell 14 _ rfl
  have k15 := BP.cell 15 _ rfl
  have k16 := BP.cell 16 _ rfl
  have k17 := BP.cell 17 _ rfl
  go_wp2_with fail
  refine (fbehind6 (G.below bel) (by decide) (by decide) f3 f1 H3.out H1.out).mono ?_
  rintro e w2 ⟨t0, t1, t2, t3, t4, t5, rfl, fT, hv, hb⟩
  have HT : Hid (Mo (v64 [x0, x1, x2, x3, x4, x5]) (e3 * 2 ^ Int.toNat 64 + e1) (v64 [t0, t1, t2, t3, t4, t5])) := hv
  clear hv H1 H3 f1 f3 ltp BP k0 k1 k2 k3 k4 k5 k12 k13 k14 k15 k16 k17
  replace B0 := B0.later hb
  replace WR := WR.later hb
  replace bel := below_step bel hb
  clear hb
  go_wp2_with fail
  refine (fsquares6 (G.below bel) (by decide) (by decide) fT HT.out).mono ?_
  rintro e w3 ⟨u0, u1, u2, u3, u4, u5, rfl, fU, hv, hb⟩
  have HU : Hid (Mo (v64 [x0, x1, x2, x3, x4, x5]) ((e3 * 2 ^ Int.toNat 64 + e1) * 2 ^ Int.toNat 30) (v64 [u0, u1, u2, u3, u4, u5])) := hv
  clear hv HT fT
  replace B0 := B0.later hb
  replace WR := WR.later hb
  replace bel := below_step bel hb
  clear hb
  go_wp2_with fail
  refine (fout6 (G.below bel) fU HU.out).mono ?_
  rintro e w4 ⟨s0, s1, s2, s3, s4, s5, rfl, fS, hv, hb⟩
  have HS : Hid (Out (v64 [x0, x1, x2, x3, x4, x5]) 9850501549098619803069760025035903451269934817616361666987073351061430442874217582261816522064734500465401743278080 (v64 [s0, s1, s2, s3, s4, s5])) := root_exp HE.out hv
  clear hv HU fU HE
  replace B0 := B0.later hb
  replace WR := WR.later hb
  replace bel := below_step bel hb
  clear hb
  have ltr4 := WR.lt
  have lt04 := B0.lt
  replace WR := WR.alloc (o := .cells (us [s0, s1, s2, s3, s4, s5]).toArray 24)
  replace B0 := B0.alloc (.cells (us [s0, s1, s2, s3, s4, s5]).toArray 24)
  have BS := Blk.new w4 (us [s0, s1, s2, s3, s4, s5]) 24 w4.heap.size rfl
  replace bel := below_alloc (o := .cells (us [s0, s1, s2, s3, s4, s5]).toArray 24) bel
  go_upto_region 3 with fail
  simp only [us, List.map_cons, List.map_nil] at WR B0 BS bel
  generalize w4.alloc (Obj.cells #[.int .u64 s0, .int .u64 s1, .int .u64 s2, .int .u64 s3, .int .u64 s4, .int .u64 s5] 24) = W4 at *
  obtain ⟨bs, hbs⟩ : ∃ b, b = w4.heap.size := ⟨_, rfl⟩
  rw [← hbs] at BS ltr4 lt04 ⊢
  clear hbs
  obtain ⟨S1, hS1, KL1, KA1, KD1, KS1, KP1, KN1, KB1, KM1, KW1⟩ := held_mk (w0 := w) (W := W4) [(w.heap.size, [x0, x1, x2, x3, x4, x5]), (bs, [s0, s1, s2, s3, s4, s5])] [w.heap.size + 1] (by
    intro b X h
    simp only [List.mem_cons, List.not_mem_nil, or_false, Prod.mk.injEq] at h
    rcases h with ⟨rfl, rfl⟩ | ⟨rfl, rfl⟩
    · exact B0
    · exact BS) (by
    intro b h
    simp only [List.mem_cons, List.not_mem_nil, or_false] at h
    rcases h with rfl
    · exact WR) (by
    intro b X h
    simp only [List.mem_cons, List.not_mem_nil, or_false, Prod.mk.injEq] at h ⊢
    omega) bel
  obtain ⟨c1a0, c1a1, c1a2, c1a3, c1a4, c1a5, c1a6⟩ := rule6 (S := Hd S1) (b := w.heap.size) (x0 := x0) (x1 := x1) (x2 := x2) (x3 := x3) (x4 := x4) (x5 := x5) (fun wx h => KM1.out wx _ _ h (by simp))
  obtain ⟨c1b0, c1b1, c1b2, c1b3, c1b4, c1b5, c1b6⟩ := rule6 (S := Hd S1) (b := bs) (x0 := s0) (x1 := s1) (x2 := s2) (x3 := s3) (x4 := s4) (x5 := s5) (fun wx h => KM1.out wx _ _ h (by simp))
  obtain ⟨⟨d1a0, d1a1, d1a2, d1a3, d1a4, d1a5⟩, ⟨d1af0, d1af1, d1af2, d1af3, d1af4, d1af5⟩, d1alt⟩ := ruleW (S := Hd S1) (b := w.heap.size + 1) (fun wx h => KW1.out wx _ h (by simp))
  have hN1 := bel.size
  clear B0 BS WR bel
  go_cut [21] (fun p wx => p = .bool (decide ((v64 [s0, s1, s2, s3, s4, s5] * v64 [s0, s1, s2, s3, s4, s5]) % PP ≠ v64 [x0, x1, x2, x3, x4, x5] % PP)) ∧ Hd S1 wx)
  case first =>
    go_region_held3 (Hd S1)
      (first
        | with_reducible exact KP1.out _ _ _ _ _ _ _ _ (by assumption) (by first | (right; simp; done) | (left; omega)) (by omega)
        | with_reducible exact KL1.out _ _ (by assumption) hb
        | with_reducible exact KA1.out _ _ (by assumption)
        | with_reducible exact KS1.out _ _ _ (by omega) (by assumption)
        | with_reducible exact KD1.out _ hS1
        | with_reducible exact KD1.out _ (KA1.out _ _ hS1)
        | with_reducible assumption)
      (first
        | (go_at_call 16; go_fit (fmul6 (G.below (KB1.out _ (by first | with_reducible assumption | with_reducible exact KA1.out _ _ (by assumption) | with_reducible exact KD1.out _ (by assumption)))) fS fS); rintro e w' ⟨n0, n1, n2, n3, n4, n5, rfl, fN, hv, hb⟩; have HN : Hid _ := hv; clear hv)
        | (go_at_call 15; go_fit (frest6 (G.below (KB1.out _ (by first | with_reducible assumption | with_reducible exact KA1.out _ _ (by assumption) | with_reducible exact KD1.out _ (by assumption)))) fX); rintro e w' ⟨k0, k1, k2, k3, k4, k5, rfl, fK, hv, hb⟩; have HK : Hid _ := hv; clear hv)
        | (go_at_call 38; go_fit (same_is fN fK HN.out HK.out); rintro e w' ⟨rfl, hb⟩))
    all_goals
      go_wp2_with fail
      go_meet
      exact ⟨root_same _ _, by with_reducible assumption⟩
  case rest =>
    clear hS1
    obtain ⟨rfl, hS1⟩ := hcut
    by_cases hq : (v64 [s0, s1, s2, s3, s4, s5] * v64 [s0, s1, s2, s3, s4, s5]) % PP = v64 [x0, x1, x2, x3, x4, x5] % PP
    · have hd : decide ((v64 [s0, s1, s2, s3, s4, s5] * v64 [s0, s1, s2, s3, s4, s5]) % PP ≠ v64 [x0, x1, x2, x3, x4, x5] % PP) = false := decide_eq_false (fun h => h hq)
      rw [hd]
      have HQ : Hid _ := hq
      clear hq hd
      go_wp2_with fail
      go_region_held3 (Hd S1)
        (first
          | with_reducible exact KP1.out _ _ _ _ _ _ _ _ (by assumption) (by first | (right; simp; done) | (left; omega)) (by omega)
          | with_reducible exact KL1.out _ _ (by assumption) hb
          | with_reducible exact KA1.out _ _ (by assumption)
          | with_reducible exact KS1.out _ _ _ (by omega) (by assumption)
          | with_reducible exact KD1.out _ hS1
          | with_reducible exact KD1.out _ (KA1.out _ _ hS1)
          | with_reducible assumption)
        (first
          | (go_at_call 40; go_fit (bit6 fS); rintro e w' ⟨rfl, hb⟩)
          | (go_at_call 22; go_fit (fneg6 (G.below (KB1.out _ (by first | with_reducible assumption | with_reducible exact KA1.out _ _ (by assumption) | with_reducible exact KD1.out _ (by assumption)))) fS); rintro e w' ⟨n0, n1, n2, n3, n4, n5, rfl, fN, hv, hb⟩; have HN : Hid _ := hv; clear hv)
          | (go_at_call 39; go_fit (pick6 bit0_bd fS fN); rintro e w' ⟨z0, z1, z2, z3, z4, z5, rfl, hp, fZ, hb⟩; have HZ : Hid _ := root_pick HN.out hp; clear hp; obtain ⟨g0, g1, g2, g3, g4, g5, ⟨h0, h1, h2, h3, h4, h5⟩, ⟨f0, f1, f2, f3, f4, f5⟩⟩ := (KW1.out _ _ (KL1.out _ _ (by assumption) hb) (by simp) : Wr6 w' (w.heap.size + 1)).cells))
      all_goals go_wp2
      all_goals exact bodyPost_ret (v := .tuple #[.agg #[.int .u64 z0, .int .u64 z1, .int .u64 z2, .int .u64 z3, .int .u64 z4, .int .u64 z5], .nilIface]) (by simp [results, Tryd.results19, go_sem, h0, h1, h2, h3, h4, h5]) rfl ⟨s0, s1, s2, s3, s4, s5, fS, HS.out, .inr ⟨HQ.out, z0, z1, z2, z3, z4, z5, rfl, fZ, HZ.out⟩, KB1.out _ (by assumption)⟩
    · have hd : decide ((v64 [s0, s1, s2, s3, s4, s5] * v64 [s0, s1, s2, s3, s4, s5]) % PP ≠ v64 [x0, x1, x2, x3, x4, x5] % PP) = true := decide_eq_true hq
      rw [hd]
      obtain ⟨g0, g1, g2, g3, g4, g5, ⟨h0, h1, h2, h3, h4, h5⟩, ⟨f0, f1, f2, f3, f4, f5⟩⟩ := (KW1.out _ _ hS1 (by simp) : Wr6 wc (w.heap.size + 1)).cells
      have HQ : Hid _ := hq
      clear hq hd
      go_wp2_with fail
      exact bodyPost_ret (v := .tuple #[.agg #[.int .u64 0, .int .u64 0, .int .u64 0, .int .u64 0, .int .u64 0, .int .u64 0], .iface 54 (.int .i64 17)]) (by simp [results, Tryd.results19, go_sem, h0, h1, h2, h3, h4, h5]) rfl ⟨s0, s1, s2, s3, s4, s5, fS, HS.out, .inl ⟨HQ.out, rfl⟩, below_put6 (KB1.out _ hS1) (by omega)⟩
end Go.Proofs.YtpgidlnpcjbfhabDoor
