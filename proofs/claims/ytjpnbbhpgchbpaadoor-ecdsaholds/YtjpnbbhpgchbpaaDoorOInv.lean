/- order.Inv: the power N - 2. -/
import Derived.Test.YtjpnbbhpgchbpaaDoorRows
import Derived.Test.YtjpnbbhpgchbpaaDoorOBase
import Derived.Test.YtjpnbbhpgchbpaaDoorMExp
import Derived.Deep.WholeRow
import Derived.Deep.RegionHeld3
import Derived.Deep.DeepCutAuto
import Derived.Deep.DeepFit
namespace Go.Proofs.YtjpnbbhpgchbpaaDoor
open Go.RowKit

theorem n2_num {s0 s1 s2 s3 s4 s5 n : Int} (fS : fits [s0, s1, s2, s3, s4, s5]) (n0 : 0 ≤ n) (n1 : n ≤ 1) (h : v64 [s0, s1, s2, s3, s4, s5] - n * 18446744073709551616 ^ 6 = v64 [17072048233947408755, 6348401684107011962, 14367412456785391071, 18446744073709551615, 18446744073709551615, 18446744073709551615] - v64 [2, 0, 0, 0, 0, 0]) : v64 [s0, s1, s2, s3, s4, s5] = QQ - 2 := by
  have b := v6_bound _ rfl fS
  rw [QQ_v, show v64 [2, 0, 0, 0, 0, 0] = 2 from rfl] at h
  have q : 2 < QQ := by decide
  generalize (18446744073709551616 : Int) ^ 6 = R at *
  rcases (by omega : n = 0 ∨ n = 1) with rfl | rfl
  · omega
  · omega

theorem exp_out {s0 s1 s2 s3 s4 s5 X z : Int} (h : z = X ^ (v64 [s0, s1, s2, s3, s4, s5]).toNat % v64 [17072048233947408755, 6348401684107011962, 14367412456785391071, 18446744073709551615, 18446744073709551615, 18446744073709551615]) (hs : v64 [s0, s1, s2, s3, s4, s5] = QQ - 2) : OutO X 39402006196394479212279040100143613805079739270465446667946905279627659399113263569398956308152294913554433653942641 z := by
  unfold OutO
  rw [h, hs, QQ_v, show (QQ - 2).toNat = 39402006196394479212279040100143613805079739270465446667946905279627659399113263569398956308152294913554433653942641 from by decide +kernel]

set_option maxRecDepth 100000 in
set_option maxHeartbeats 2000000 in
theorem oinv6 {x0 x1 x2 x3 x4 x5 : Int} {w : World} (G : GlsO w) (fX : fits [x0, x1, x2, x3, x4, x5]) :
    Calls Tryd.prog 19 #[.agg #[.int .u64 x0, .int .u64 x1, .int .u64 x2, .int .u64 x3, .int .u64 x4, .int .u64 x5]] w fun e w' => ∃ z0 z1 z2 z3 z4 z5 : Int, e = .returned (.agg #[.int .u64 z0, .int .u64 z1, .int .u64 z2, .int .u64 z3, .int .u64 z4, .int .u64 z5]) ∧ fits [z0, z1, z2, z3, z4, z5] ∧ OutO (v64 [x0, x1, x2, x3, x4, x5]) 39402006196394479212279040100143613805079739270465446667946905279627659399113263569398956308152294913554433653942641 (v64 [z0, z1, z2, z3, z4, z5]) ∧ Below w.heap.size w w' := by
  have f2 : fits [2, 0, 0, 0, 0, 0] := fits6 (by decide)
  have B0 := (Blk.new w (us [x0, x1, x2, x3, x4, x5]) 24 (w.heap.size) rfl).alloc (.cells (us [0, 0, 0, 0, 0, 0]).toArray 24)
  have B1 := Blk.new (w.alloc (.cells (us [x0, x1, x2, x3, x4, x5]).toArray 24)) (us [0, 0, 0, 0, 0, 0]) 24 (w.heap.size + 1) (by simp)
  have bel : Below w.heap.size w ((w.alloc (.cells (us [x0, x1, x2, x3, x4, x5]).toArray 24)).alloc (.cells (us [0, 0, 0, 0, 0, 0]).toArray 24)) := ((Below.refl _ _).alloc (Nat.le_refl _) _).alloc (by simp) _
  have WR : Wr6 _ (w.heap.size + 1) := Wr6.of B1
  go_enter Tryd.func19, Tryd.ntmps19
  go_upto_region 1 with fail
  simp only [us, List.map_cons, List.map_nil] at B0 WR bel
  generalize (w.alloc (Obj.cells #[.int .u64 x0, .int .u64 x1, .int .u64 x2, .int .u64 x3, .int .u64 x4, .int .u64 x5] 24)).alloc (Obj.cells #[.int .u64 0, .int .u64 0, .int .u64 0, .int .u64 0, .int .u64 0, .int .u64 0] 24) = W at *
  clear B1
  have GW := G.below bel
  obtain ⟨l0, l1⟩ := GW.lts
  obtain ⟨⟨a0, a1, a2, a3, a4, a5⟩, GW1⟩ := GW
  clear GW1
  go_wp2_with fail
  refine (sub6 fQ f2).mono ?_
  rintro e w1 ⟨s0, s1, s2, s3, s4, s5, nb, rfl, fS, n0, n1, hs, hb⟩
  have HS : Hid (v64 [s0, s1, s2, s3, s4, s5] = QQ - 2) := n2_num fS n0 n1 hs
  clear hs n0 n1 a0 a1 a2 a3 a4 a5 l0 l1 f2
  replace B0 := B0.later hb
  replace WR := WR.later hb
  replace bel := below_step bel hb
  clear hb
  have lt0 := B0.lt
  have ltw := WR.lt
  go_upto_region 2 with fail
  replace B0 := B0.alloc (.cells (us [s0, s1, s2, s3, s4, s5]).toArray 24)
  replace WR := WR.alloc (o := .cells (us [s0, s1, s2, s3, s4, s5]).toArray 24)
  have Bi := Blk.new w1 (us [s0, s1, s2, s3, s4, s5]) 24 w1.heap.size rfl
  replace bel := below_alloc (o := .cells (us [s0, s1, s2, s3, s4, s5]).toArray 24) bel
  simp only [us, List.map_cons, List.map_nil] at B0 Bi WR bel
  obtain ⟨bi, hbi⟩ : ∃ b, b = w1.heap.size := ⟨_, rfl⟩
  generalize w1.alloc (Obj.cells #[.int .u64 s0, .int .u64 s1, .int .u64 s2, .int .u64 s3, .int .u64 s4, .int .u64 s5] 24) = Wi at *
  rw [← hbi] at Bi lt0 ltw ⊢
  clear hbi
  obtain ⟨S1, hS1, KL1, KA1, KD1, KS1, KP1, KN1, KB1, KM1, KW1⟩ := held_mk (w0 := w) (W := Wi) [(w.heap.size, [x0, x1, x2, x3, x4, x5]), (bi, [s0, s1, s2, s3, s4, s5])] [w.heap.size + 1] (by
    intro b X h
    simp only [List.mem_cons, List.not_mem_nil, or_false, Prod.mk.injEq] at h
    rcases h with ⟨rfl, rfl⟩ | ⟨rfl, rfl⟩
    · exact B0
    · exact Bi) (by
    intro b h
    simp only [List.mem_cons, List.not_mem_nil, or_false] at h
    rcases h with rfl
    · exact WR) (by
    intro b X h
    simp only [List.mem_cons, List.not_mem_nil, or_false, Prod.mk.injEq] at h ⊢
    omega) bel
  obtain ⟨c1a0, c1a1, c1a2, c1a3, c1a4, c1a5, c1a6⟩ := rule6 (S := Hd S1) (b := w.heap.size) (x0 := x0) (x1 := x1) (x2 := x2) (x3 := x3) (x4 := x4) (x5 := x5) (fun wx h => KM1.out wx _ _ h (by simp))
  obtain ⟨c1b0, c1b1, c1b2, c1b3, c1b4, c1b5, c1b6⟩ := rule6 (S := Hd S1) (b := bi) (x0 := s0) (x1 := s1) (x2 := s2) (x3 := s3) (x4 := s4) (x5 := s5) (fun wx h => KM1.out wx _ _ h (by simp))
  obtain ⟨⟨d1a0, d1a1, d1a2, d1a3, d1a4, d1a5⟩, ⟨d1af0, d1af1, d1af2, d1af3, d1af4, d1af5⟩, d1alt⟩ := ruleW (S := Hd S1) (b := w.heap.size + 1) (fun wx h => KW1.out wx _ h (by simp))
  have hN1 := bel.size
  clear B0 Bi bel
  go_region_held3 (Hd S1)
    (first
      | with_reducible exact KP1.out _ _ _ _ _ _ _ _ (by assumption) (by first | (right; simp; done) | (left; omega)) (by omega)
      | with_reducible exact KL1.out _ _ (by assumption) hb
      | with_reducible exact KA1.out _ _ (by assumption)
      | with_reducible exact KS1.out _ _ _ (by omega) (by assumption)
      | with_reducible exact KD1.out _ hS1
      | with_reducible exact KD1.out _ (KA1.out _ _ hS1)
      | with_reducible assumption)
    (first
      | (go_at_call 33; go_fit (omod (G.below (KB1.out _ (by first | with_reducible assumption | with_reducible exact KA1.out _ _ (by assumption) | with_reducible exact KD1.out _ (by assumption))))); rintro e w' ⟨rfl, hb⟩)
      | (go_at_call 36; go_fit (exp6 fX fS isQ); rintro e w' ⟨z0, z1, z2, z3, z4, z5, rfl, fZ, hv, hb⟩; have HV : Hid (OutO (v64 [x0, x1, x2, x3, x4, x5]) 39402006196394479212279040100143613805079739270465446667946905279627659399113263569398956308152294913554433653942641 (v64 [z0, z1, z2, z3, z4, z5])) := exp_out hv HS.out; clear hv; obtain ⟨g0, g1, g2, g3, g4, g5, ⟨h0, h1, h2, h3, h4, h5⟩, ⟨f0, f1, f2, f3, f4, f5⟩⟩ := (KW1.out _ _ (KL1.out _ _ (by assumption) hb) (by simp) : Wr6 w' (w.heap.size + 1)).cells))
  all_goals go_wp2
  all_goals exact bodyPost_ret (v := .agg #[.int .u64 z0, .int .u64 z1, .int .u64 z2, .int .u64 z3, .int .u64 z4, .int .u64 z5]) (by simp [results, Tryd.results19, go_sem, h0, h1, h2, h3, h4, h5]) rfl ⟨z0, z1, z2, z3, z4, z5, rfl, fZ, HV.out, KB1.out _ (by assumption)⟩
end Go.Proofs.YtjpnbbhpgchbpaaDoor
