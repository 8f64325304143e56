/- field.Inv: the power P - 2. -/
import Derived.Test.YtdikjabghhhhfaaDoorRows
import Derived.Test.YtdikjabghhhhfaaDoorFPowers
import Derived.Test.YtdikjabghhhhfaaDoorFMulR
import Derived.Deep.WholeRow
import Derived.Deep.RegionHeld3
import Derived.Deep.DeepCutAuto
import Derived.Deep.DeepFit
namespace Go.Proofs.YtdikjabghhhhfaaDoor
open Go.RowKit

theorem inv_exp {a z : Int} {e1 e2 e3 : Nat} (h : e1 = 1 ∧ e2 = 1073741823 ∧ e3 = 497323236409786642155382248146820840100456150797347717440463976893159497012529080565759) (k : Out a ((e3 * 2 ^ Int.toNat 94 + e2) * 2 ^ Int.toNat 2 + e1) z) : Out a 39402006196394479212279040100143613805079739270465446667948293404245721771496870329047266088258938001861606973112317 z := by
  obtain ⟨rfl, rfl, rfl⟩ := h
  have e : (497323236409786642155382248146820840100456150797347717440463976893159497012529080565759 * 2 ^ Int.toNat 94 + 1073741823) * 2 ^ Int.toNat 2 + 1 = 39402006196394479212279040100143613805079739270465446667948293404245721771496870329047266088258938001861606973112317 := by decide +kernel
  rw [e] at k
  exact k

set_option maxRecDepth 100000 in
set_option maxHeartbeats 2000000 in
theorem finv6 {x0 x1 x2 x3 x4 x5 : Int} {w : World} (G : Gls w) (fX : fits [x0, x1, x2, x3, x4, x5]) :
    Calls Tryd.prog 80 #[.agg #[.int .u64 x0, .int .u64 x1, .int .u64 x2, .int .u64 x3, .int .u64 x4, .int .u64 x5]] w fun e w' => ∃ z0 z1 z2 z3 z4 z5 : Int, e = .returned (.agg #[.int .u64 z0, .int .u64 z1, .int .u64 z2, .int .u64 z3, .int .u64 z4, .int .u64 z5]) ∧ fits [z0, z1, z2, z3, z4, z5] ∧ Out (v64 [x0, x1, x2, x3, x4, x5]) 39402006196394479212279040100143613805079739270465446667948293404245721771496870329047266088258938001861606973112317 (v64 [z0, z1, z2, z3, z4, z5]) ∧ Below w.heap.size w w' := by
  have B0 := (Blk.new w (us [x0, x1, x2, x3, x4, x5]) 24 (w.heap.size) rfl).alloc (.cells (us [0, 0, 0, 0, 0, 0]).toArray 24)
  have B1 := Blk.new (w.alloc (.cells (us [x0, x1, x2, x3, x4, x5]).toArray 24)) (us [0, 0, 0, 0, 0, 0]) 24 (w.heap.size + 1) (by simp)
  have bel : Below w.heap.size w ((w.alloc (.cells (us [x0, x1, x2, x3, x4, x5]).toArray 24)).alloc (.cells (us [0, 0, 0, 0, 0, 0]).toArray 24)) := ((Below.refl _ _).alloc (Nat.le_refl _) _).alloc (by simp) _
  have WR : Wrn _ (w.heap.size + 1) 6 := Wrn.mk B1 rfl
  go_enter Tryd.func80, Tryd.ntmps80
  go_upto_region 1 with fail
  simp only [us, List.map_cons, List.map_nil] at B0 WR bel
  generalize (w.alloc (Obj.cells #[.int .u64 x0, .int .u64 x1, .int .u64 x2, .int .u64 x3, .int .u64 x4, .int .u64 x5] 24)).alloc (Obj.cells #[.int .u64 0, .int .u64 0, .int .u64 0, .int .u64 0, .int .u64 0, .int .u64 0] 24) = W at *
  clear B1
  obtain ⟨c0, c1, c2, c3, c4, c5⟩ := B0.cells6
  go_wp2_with fail
  refine (fpowers6 (G.below bel) fX).mono ?_
  rintro e w1 ⟨p0, p1, p2, p3, p4, p5, q0, q1, q2, q3, q4, q5, r0, r1, r2, r3, r4, r5, rfl, f1, f2, f3, h1, h2, h3, hb⟩
  obtain ⟨e1, e2, e3, h1, h2, h3, HE⟩ : ∃ e1 e2 e3 : Nat, Mo (v64 [x0, x1, x2, x3, x4, x5]) (e1) (v64 [p0, p1, p2, p3, p4, p5]) ∧ Mo (v64 [x0, x1, x2, x3, x4, x5]) (e2) (v64 [q0, q1, q2, q3, q4, q5]) ∧ Mo (v64 [x0, x1, x2, x3, x4, x5]) (e3) (v64 [r0, r1, r2, r3, r4, r5]) ∧ Hid (e1 = 1 ∧ e2 = 1073741823 ∧ e3 = 497323236409786642155382248146820840100456150797347717440463976893159497012529080565759) := ⟨1, 1073741823, 497323236409786642155382248146820840100456150797347717440463976893159497012529080565759, h1, h2, h3, rfl, rfl, rfl⟩
  have H1 : Hid (Mo (v64 [x0, x1, x2, x3, x4, x5]) (e1) (v64 [p0, p1, p2, p3, p4, p5])) := h1
  have H2 : Hid (Mo (v64 [x0, x1, x2, x3, x4, x5]) (e2) (v64 [q0, q1, q2, q3, q4, q5])) := h2
  have H3 : Hid (Mo (v64 [x0, x1, x2, x3, x4, x5]) (e3) (v64 [r0, r1, r2, r3, r4, r5])) := h3
  clear h1 h2 h3 c0 c1 c2 c3 c4 c5 B0
  have ltr := (WR.later hb).lt
  replace WR := (WR.later hb).alloc (.cells (us [p0, p1, p2, p3, p4, p5, q0, q1, q2, q3, q4, q5, r0, r1, r2, r3, r4, r5]).toArray 98)
  have BP := Blk.new w1 (us [p0, p1, p2, p3, p4, p5, q0, q1, q2, q3, q4, q5, r0, r1, r2, r3, r4, r5]) 98 w1.heap.size rfl
  replace bel := below_alloc (o := .cells (us [p0, p1, p2, p3, p4, p5, q0, q1, q2, q3, q4, q5, r0, r1, r2, r3, r4, r5]).toArray 98) (below_step bel hb)
  clear hb
  go_upto_region 2 with (refine wpList_store_row rfl 98 _ _ rfl w1.heap.size #[.int .u64 p0, .int .u64 p1, .int .u64 p2, .int .u64 p3, .int .u64 p4, .int .u64 p5, .int .u64 q0, .int .u64 q1, .int .u64 q2, .int .u64 q3, .int .u64 q4, .int .u64 q5, .int .u64 r0, .int .u64 r1, .int .u64 r2, .int .u64 r3, .int .u64 r4, .int .u64 r5] rfl rfl 98 _ (heap_alloc_last _ _) pow_size rfl (us_one [p0, p1, p2, p3, p4, p5, q0, q1, q2, q3, q4, q5, r0, r1, r2, r3, r4, r5]) ?_; rw [World.setRow_alloc_new])
  simp only [us, List.map_cons, List.map_nil] at WR BP bel
  generalize w1.alloc (Obj.cells #[.int .u64 p0, .int .u64 p1, .int .u64 p2, .int .u64 p3, .int .u64 p4, .int .u64 p5, .int .u64 q0, .int .u64 q1, .int .u64 q2, .int .u64 q3, .int .u64 q4, .int .u64 q5, .int .u64 r0, .int .u64 r1, .int .u64 r2, .int .u64 r3, .int .u64 r4, .int .u64 r5] 98) = W1 at *
  obtain ⟨bp, hbp⟩ : ∃ b, b = w1.heap.size := ⟨_, rfl⟩
  rw [← hbp] at BP ltr ⊢
  clear hbp
  obtain ⟨S1, hS1, KL1, KA1, KD1, KS1, KP1, KN1, KB1, KM1, KW1, KR1⟩ := held2 (w0 := w) (W := W1) [(bp, [Value.int .u64 p0, Value.int .u64 p1, Value.int .u64 p2, Value.int .u64 p3, Value.int .u64 p4, Value.int .u64 p5, Value.int .u64 q0, Value.int .u64 q1, Value.int .u64 q2, Value.int .u64 q3, Value.int .u64 q4, Value.int .u64 q5, Value.int .u64 r0, Value.int .u64 r1, Value.int .u64 r2, Value.int .u64 r3, Value.int .u64 r4, Value.int .u64 r5])] [(w.heap.size + 1, 6)] (by
    intro b X h
    simp only [List.mem_cons, List.not_mem_nil, or_false, Prod.mk.injEq] at h
    rcases h with ⟨rfl, rfl⟩
    · exact BP) (by
    intro b n h
    simp only [List.mem_cons, List.not_mem_nil, or_false, Prod.mk.injEq] at h
    rcases h with ⟨rfl, rfl⟩
    · exact WR) (by
    intro b X n h
    simp only [List.mem_cons, List.not_mem_nil, or_false, Prod.mk.injEq] at h ⊢
    omega) bel
  have kb1a : ∀ wx, Hd S1 wx → Blk wx (bp) [Value.int .u64 p0, Value.int .u64 p1, Value.int .u64 p2, Value.int .u64 p3, Value.int .u64 p4, Value.int .u64 p5, Value.int .u64 q0, Value.int .u64 q1, Value.int .u64 q2, Value.int .u64 q3, Value.int .u64 q4, Value.int .u64 q5, Value.int .u64 r0, Value.int .u64 r1, Value.int .u64 r2, Value.int .u64 r3, Value.int .u64 r4, Value.int .u64 r5] := fun wx h => KM1.out wx _ _ h (by simp)
  have c1a0 := rulec kb1a 0 _ rfl
  have c1a1 := rulec kb1a 1 _ rfl
  have c1a2 := rulec kb1a 2 _ rfl
  have c1a3 := rulec kb1a 3 _ rfl
  have c1a4 := rulec kb1a 4 _ rfl
  have c1a5 := rulec kb1a 5 _ rfl
  have c1a6 := rulec kb1a 6 _ rfl
  have c1a7 := rulec kb1a 7 _ rfl
  have c1a8 := rulec kb1a 8 _ rfl
  have c1a9 := rulec kb1a 9 _ rfl
  have c1a10 := rulec kb1a 10 _ rfl
  have c1a11 := rulec kb1a 11 _ rfl
  have c1a12 := rulec kb1a 12 _ rfl
  have c1a13 := rulec kb1a 13 _ rfl
  have c1a14 := rulec kb1a 14 _ rfl
  have c1a15 := rulec kb1a 15 _ rfl
  have c1a16 := rulec kb1a 16 _ rfl
  have c1a17 := rulec kb1a 17 _ rfl
  have c1al := ruleb kb1a
  clear kb1a
  have mw1a : ∃ n, (w.heap.size + 1, n) ∈ [(w.heap.size + 1, 6)] := ⟨6, by simp⟩
  have hN1 := bel.size
  clear WR BP bel
  go_region_held3 (Hd S1)
    (first
      | with_reducible exact (KP1.out _ _ _ _ (KP1.out _ _ _ _ (KP1.out _ _ _ _ (KP1.out _ _ _ _ (KP1.out _ _ _ _ (KP1.out _ _ _ _ (by assumption) (Or.inr mw1a) (by omega)) (Or.inr mw1a) (by omega)) (Or.inr mw1a) (by omega)) (Or.inr mw1a) (by omega)) (Or.inr mw1a) (by omega)) (Or.inr mw1a) (by omega))
      | with_reducible exact KL1.out _ _ (by assumption) hb
      | with_reducible exact KA1.out _ _ (by assumption)
      | with_reducible exact KS1.out _ _ _ (by omega) (by assumption)
      | with_reducible exact KD1.out _ hS1
      | with_reducible exact KD1.out _ (KA1.out _ _ hS1)
      | with_reducible assumption)
    (first
      | (go_at_call 90; go_fit (fbehind6 (G.below (KB1.out _ (by first | with_reducible assumption | with_reducible exact KA1.out _ _ (by assumption) | with_reducible exact KD1.out _ (by assumption)))) (by decide) (by decide) f3 f2 H3.out H2.out); rintro e w' ⟨t0, t1, t2, t3, t4, t5, rfl, fT, hv, hb⟩; have HT : Hid (Mo (v64 [x0, x1, x2, x3, x4, x5]) (e3 * 2 ^ Int.toNat 94 + e2) (v64 [t0, t1, t2, t3, t4, t5])) := hv; clear hv)
      | (go_at_call 90; go_fit (fbehind6 (G.below (KB1.out _ (by first | with_reducible assumption | with_reducible exact KA1.out _ _ (by assumption) | with_reducible exact KD1.out _ (by assumption)))) (by decide) (by decide) fT f1 HT.out H1.out); rintro e w' ⟨y0, y1, y2, y3, y4, y5, rfl, fU, hv, hb⟩; have HU : Hid (Mo (v64 [x0, x1, x2, x3, x4, x5]) ((e3 * 2 ^ Int.toNat 94 + e2) * 2 ^ Int.toNat 2 + e1) (v64 [y0, y1, y2, y3, y4, y5])) := hv; clear hv)
      | (go_at_call 89; go_fit (fout6 (G.below (KB1.out _ (by first | with_reducible assumption | with_reducible exact KA1.out _ _ (by assumption) | with_reducible exact KD1.out _ (by assumption)))) fU HU.out); rintro e w' ⟨z0, z1, z2, z3, z4, z5, rfl, fZ, hv, hb⟩; have HZ : Hid (Out (v64 [x0, x1, x2, x3, x4, x5]) ((e3 * 2 ^ Int.toNat 94 + e2) * 2 ^ Int.toNat 2 + e1) (v64 [z0, z1, z2, z3, z4, z5])) := hv; clear hv; have hW := (KW1.out _ _ _ (KL1.out _ _ (by assumption) hb) (by simp) : Wrn w' (w.heap.size + 1) 6); have hWl := hW.lt; obtain ⟨v0, v1, v2, v3, v4, v5, ⟨h0, h1, h2, h3, h4, h5⟩, ⟨f0, f1, f2, f3, f4, f5⟩⟩ := hW.parts6))
  all_goals go_wp2
  all_goals exact bodyPost_ret (v := .agg #[.int .u64 z0, .int .u64 z1, .int .u64 z2, .int .u64 z3, .int .u64 z4, .int .u64 z5]) (by simp [results, Tryd.results80, go_sem, h0, h1, h2, h3, h4, h5]) rfl ⟨z0, z1, z2, z3, z4, z5, rfl, fZ, inv_exp HE.out HZ.out, KB1.out _ (by assumption)⟩
end Go.Proofs.YtdikjabghhhhfaaDoor
