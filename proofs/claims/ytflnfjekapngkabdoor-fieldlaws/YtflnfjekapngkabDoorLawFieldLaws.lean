/- The law FieldLaws answers true: it is a field. -/
import Derived.Test.YtflnfjekapngkabDoorRows
import Derived.Test.YtflnfjekapngkabDoorFEql
import Derived.Test.YtflnfjekapngkabDoorFSub
import Derived.Test.YtflnfjekapngkabDoorFNeg
import Derived.Test.YtflnfjekapngkabDoorFMul
import Derived.Test.YtflnfjekapngkabDoorFRest
import Derived.Deep.RegionHeld3
import Derived.Deep.DeepCutAuto
import Derived.Deep.DeepFit
namespace Go.Proofs.YtflnfjekapngkabDoor
open Go.RowKit

theorem law_comm {X Y M r s : Int} (h : r = (X + Y) % M) (k : s = (Y + X) % M) : r = s := by rw [h, k, Int.add_comm]
theorem law_comm2 {X Y M r s : Int} (h : r = (X * Y) % M) (k : s = (Y * X) % M) : r = s := by rw [h, k, Int.mul_comm]
theorem law_assoc {X Y Z M r s t u : Int} (h : r = (X + Y) % M) (k : s = (r + Z) % M) (l : t = (Y + Z) % M) (m : u = (X + t) % M) : s = u := by
  rw [k, h, m, l, Int.emod_add_emod, Int.add_emod_emod, Int.add_assoc]
theorem law_assoc2 {X Y Z M r s t u : Int} (h : r = (X * Y) % M) (k : s = (r * Z) % M) (l : t = (Y * Z) % M) (m : u = (X * t) % M) : s = u := by
  rw [k, h, m, l, Int.mul_emod, Int.emod_emod, ← Int.mul_emod, Int.mul_emod X, Int.emod_emod, ← Int.mul_emod, Int.mul_assoc]
theorem law_spread {X Y Z M r s t p u : Int} (h : r = (Y + Z) % M) (k : s = (X * r) % M) (l : t = (X * Y) % M) (m : p = (X * Z) % M) (n : u = (t + p) % M) : s = u := by
  rw [k, h, n, l, m, ← Int.add_emod, ← Int.mul_add, Int.mul_emod, Int.emod_emod, ← Int.mul_emod]
theorem law_back {X Y M r s u : Int} (h : r = (X - Y) % M) (k : s = (r + Y) % M) (l : u = X % M) : s = u := by
  rw [k, h, l, Int.emod_add_emod, Int.sub_add_cancel]
theorem law_none {X M t p : Int} (h : t = (0 - X) % M) (k : p = (X + t) % M) : p = 0 := by
  rw [k, h, Int.add_emod_emod, show X + (0 - X) = 0 by omega, Int.zero_emod]

set_option maxRecDepth 100000 in
set_option maxHeartbeats 8000000 in
theorem law_fieldLaws (x0 x1 x2 x3 x4 x5 y0 y1 y2 y3 y4 y5 z0 z1 z2 z3 z4 z5 : Int) (w : World) (G : Gls w) (fX : fits [x0, x1, x2, x3, x4, x5]) (fY : fits [y0, y1, y2, y3, y4, y5]) (fZ : fits [z0, z1, z2, z3, z4, z5]) :
    Calls Tryd.prog 3 #[.agg #[.int .u64 x0, .int .u64 x1, .int .u64 x2, .int .u64 x3, .int .u64 x4, .int .u64 x5], .agg #[.int .u64 y0, .int .u64 y1, .int .u64 y2, .int .u64 y3, .int .u64 y4, .int .u64 y5], .agg #[.int .u64 z0, .int .u64 z1, .int .u64 z2, .int .u64 z3, .int .u64 z4, .int .u64 z5]] w fun e w' => e = .returned (.bool true) ∧ Below w.heap.size w w' := by
  have B0 := ((Blk.new w (us [x0, x1, x2, x3, x4, x5]) 24 (w.heap.size) rfl).alloc (.cells (us [y0, y1, y2, y3, y4, y5]).toArray 24)).alloc (.cells (us [z0, z1, z2, z3, z4, z5]).toArray 24)
  have B1 := (Blk.new (w.alloc (.cells (us [x0, x1, x2, x3, x4, x5]).toArray 24)) (us [y0, y1, y2, y3, y4, y5]) 24 (w.heap.size + 1) (by simp)).alloc (.cells (us [z0, z1, z2, z3, z4, z5]).toArray 24)
  have B2 := Blk.new ((w.alloc (.cells (us [x0, x1, x2, x3, x4, x5]).toArray 24)).alloc (.cells (us [y0, y1, y2, y3, y4, y5]).toArray 24)) (us [z0, z1, z2, z3, z4, z5]) 24 (w.heap.size + 1 + 1) (by simp)
  have bel : Below w.heap.size w (((w.alloc (.cells (us [x0, x1, x2, x3, x4, x5]).toArray 24)).alloc (.cells (us [y0, y1, y2, y3, y4, y5]).toArray 24)).alloc (.cells (us [z0, z1, z2, z3, z4, z5]).toArray 24)) := (((Below.refl _ _).alloc (Nat.le_refl _) _).alloc (by simp) _).alloc (by simp; omega) _
  go_enter Tryd.func3, Tryd.ntmps3
  go_upto_region 1 with fail
  simp only [us, List.map_cons, List.map_nil] at B0 B1 B2 bel
  generalize ((w.alloc (Obj.cells #[.int .u64 x0, .int .u64 x1, .int .u64 x2, .int .u64 x3, .int .u64 x4, .int .u64 x5] 24)).alloc (Obj.cells #[.int .u64 y0, .int .u64 y1, .int .u64 y2, .int .u64 y3, .int .u64 y4, .int .u64 y5] 24)).alloc (Obj.cells #[.int .u64 z0, .int .u64 z1, .int .u64 z2, .int .u64 z3, .int .u64 z4, .int .u64 z5] 24) = W at *
  obtain ⟨S1, hS1, KL1, KA1, KD1, KS1, KP1, KN1, KB1, KM1, KW1⟩ := held_mk (w0 := w) (W := W) [(w.heap.size, [x0, x1, x2, x3, x4, x5]), (w.heap.size + 1, [y0, y1, y2, y3, y4, y5]), (w.heap.size + 1 + 1, [z0, z1, z2, z3, z4, z5])] [] (by
    intro b X h
    simp only [List.mem_cons, List.not_mem_nil, or_false, Prod.mk.injEq] at h
    rcases h with ⟨rfl, rfl⟩ | ⟨rfl, rfl⟩ | ⟨rfl, rfl⟩
    · exact B0
    · exact B1
    · exact B2) (by
    intro b h
    exact absurd h (by simp)) (by
    intro b X h
    simp) bel
  obtain ⟨c1a0, c1a1, c1a2, c1a3, c1a4, c1a5, c1a6⟩ := rule6 (S := Hd S1) (b := w.heap.size) (x0 := x0) (x1 := x1) (x2 := x2) (x3 := x3) (x4 := x4) (x5 := x5) (fun wx h => KM1.out wx _ _ h (by simp))
  obtain ⟨c1b0, c1b1, c1b2, c1b3, c1b4, c1b5, c1b6⟩ := rule6 (S := Hd S1) (b := w.heap.size + 1) (x0 := y0) (x1 := y1) (x2 := y2) (x3 := y3) (x4 := y4) (x5 := y5) (fun wx h => KM1.out wx _ _ h (by simp))
  obtain ⟨c1c0, c1c1, c1c2, c1c3, c1c4, c1c5, c1c6⟩ := rule6 (S := Hd S1) (b := w.heap.size + 1 + 1) (x0 := z0) (x1 := z1) (x2 := z2) (x3 := z3) (x4 := z4) (x5 := z5) (fun wx h => KM1.out wx _ _ h (by simp))
  have hN1 := bel.size
  clear B0 B1 B2 bel
  go_cut [7] (fun p wx => p = .bool true ∧ Hd S1 wx)
  case first =>
    go_region_held3 (Hd S1)
      (first
        | with_reducible exact KP1.out _ _ _ _ _ _ _ _ (by assumption) (by first | (right; simp; done) | (left; omega)) (by omega)
        | with_reducible exact KL1.out _ _ (by assumption) hb
        | with_reducible exact KA1.out _ _ (by assumption)
        | with_reducible exact KS1.out _ _ _ (by omega) (by assumption)
        | with_reducible exact KD1.out _ hS1
        | with_reducible exact KD1.out _ (KA1.out _ _ hS1)
        | with_reducible assumption)
      (first
        | (go_at_call 4; go_fit (fadd6 (G.below (KB1.out _ (by first | with_reducible assumption | with_reducible exact KA1.out _ _ (by assumption) | with_reducible exact KD1.out _ (by assumption)))) fX fY); rintro e w' ⟨r0, r1, r2, r3, r4, r5, rfl, fR, hv, hb⟩; have HR : Hid _ := hv; clear hv)
        | (go_at_call 4; go_fit (fadd6 (G.below (KB1.out _ (by first | with_reducible assumption | with_reducible exact KA1.out _ _ (by assumption) | with_reducible exact KD1.out _ (by assumption)))) fY fX); rintro e w' ⟨s0, s1, s2, s3, s4, s5, rfl, fS, hv, hb⟩; (have eq : [r0, r1, r2, r3, r4, r5] = [s0, s1, s2, s3, s4, s5] := (by refine v64_inj _ _ rfl fR fS ?_; exact law_comm HR.out hv)); simp only [List.cons.injEq, and_true] at eq; obtain ⟨rfl, rfl, rfl, rfl, rfl, rfl⟩ := eq; have qa := eql_same r0 r1 r2 r3 r4 r5; clear hv)
        | (go_at_call 5; go_fit (fmul6 (G.below (KB1.out _ (by first | with_reducible assumption | with_reducible exact KA1.out _ _ (by assumption) | with_reducible exact KD1.out _ (by assumption)))) fX fY); rintro e w' ⟨t0, t1, t2, t3, t4, t5, rfl, fT, hv, hb⟩; have HT : Hid _ := hv; clear hv)
        | (go_at_call 5; go_fit (fmul6 (G.below (KB1.out _ (by first | with_reducible assumption | with_reducible exact KA1.out _ _ (by assumption) | with_reducible exact KD1.out _ (by assumption)))) fY fX); rintro e w' ⟨o0, o1, o2, o3, o4, o5, rfl, fU, hv, hb⟩; (have eq : [t0, t1, t2, t3, t4, t5] = [o0, o1, o2, o3, o4, o5] := (by refine v64_inj _ _ rfl fT fU ?_; exact law_comm2 HT.out hv)); simp only [List.cons.injEq, and_true] at eq; obtain ⟨rfl, rfl, rfl, rfl, rfl, rfl⟩ := eq; have qb := eql_same t0 t1 t2 t3 t4 t5; clear hv))
    all_goals
      go_wp2_with fail
      go_meet
      exact ⟨rfl, by with_reducible assumption⟩
  case rest =>
    clear hS1
    obtain ⟨rfl, hS1⟩ := hcut
    go_upto_region 2 with fail
    go_cut [8] (fun p wx => p = .bool true ∧ Hd S1 wx)
    case first =>
      go_region_held3 (Hd S1)
        (first
          | with_reducible exact KP1.out _ _ _ _ _ _ _ _ (by assumption) (by first | (right; simp; done) | (left; omega)) (by omega)
          | with_reducible exact KL1.out _ _ (by assumption) hb
          | with_reducible exact KA1.out _ _ (by assumption)
          | with_reducible exact KS1.out _ _ _ (by omega) (by assumption)
          | with_reducible exact KD1.out _ hS1
          | with_reducible exact KD1.out _ (KA1.out _ _ hS1)
          | with_reducible assumption)
        (first
          | (go_at_call 4; go_fit (fadd6 (G.below (KB1.out _ (by first | with_reducible assumption | with_reducible exact KA1.out _ _ (by assumption) | with_reducible exact KD1.out _ (by assumption)))) fX fY); rintro e w' ⟨r0, r1, r2, r3, r4, r5, rfl, fR, hv, hb⟩; have HR : Hid _ := hv; clear hv)
          | (go_at_call 4; go_fit (fadd6 (G.below (KB1.out _ (by first | with_reducible assumption | with_reducible exact KA1.out _ _ (by assumption) | with_reducible exact KD1.out _ (by assumption)))) fR fZ); rintro e w' ⟨s0, s1, s2, s3, s4, s5, rfl, fS, hv, hb⟩; have HS : Hid _ := hv; clear hv)
          | (go_at_call 4; go_fit (fadd6 (G.below (KB1.out _ (by first | with_reducible assumption | with_reducible exact KA1.out _ _ (by assumption) | with_reducible exact KD1.out _ (by assumption)))) fY fZ); rintro e w' ⟨t0, t1, t2, t3, t4, t5, rfl, fT, hv, hb⟩; have HT : Hid _ := hv; clear hv)
          | (go_at_call 4; go_fit (fadd6 (G.below (KB1.out _ (by first | with_reducible assumption | with_reducible exact KA1.out _ _ (by assumption) | with_reducible exact KD1.out _ (by assumption)))) fX fT); rintro e w' ⟨o0, o1, o2, o3, o4, o5, rfl, fU, hv, hb⟩; (have eq : [s0, s1, s2, s3, s4, s5] = [o0, o1, o2, o3, o4, o5] := (by refine v64_inj _ _ rfl fS fU ?_; exact law_assoc HR.out HS.out HT.out hv)); simp only [List.cons.injEq, and_true] at eq; obtain ⟨rfl, rfl, rfl, rfl, rfl, rfl⟩ := eq; have qa := eql_same s0 s1 s2 s3 s4 s5; clear hv))
      all_goals
        go_wp2_with fail
        go_meet
        exact ⟨rfl, by with_reducible assumption⟩
    case rest =>
      clear hS1
      obtain ⟨rfl, hS1⟩ := hcut
      go_upto_region 3 with fail
      go_cut [9] (fun p wx => p = .bool true ∧ Hd S1 wx)
      case first =>
        go_region_held3 (Hd S1)
          (first
            | with_reducible exact KP1.out _ _ _ _ _ _ _ _ (by assumption) (by first | (right; simp; done) | (left; omega)) (by omega)
            | with_reducible exact KL1.out _ _ (by assumption) hb
            | with_reducible exact KA1.out _ _ (by assumption)
            | with_reducible exact KS1.out _ _ _ (by omega) (by assumption)
            | with_reducible exact KD1.out _ hS1
            | with_reducible exact KD1.out _ (KA1.out _ _ hS1)
            | with_reducible assumption)
          (first
            | (go_at_call 5; go_fit (fmul6 (G.below (KB1.out _ (by first | with_reducible assumption | with_reducible exact KA1.out _ _ (by assumption) | with_reducible exact KD1.out _ (by assumption)))) fX fY); rintro e w' ⟨r0, r1, r2, r3, r4, r5, rfl, fR, hv, hb⟩; have HR : Hid _ := hv; clear hv)
            | (go_at_call 5; go_fit (fmul6 (G.below (KB1.out _ (by first | with_reducible assumption | with_reducible exact KA1.out _ _ (by assumption) | with_reducible exact KD1.out _ (by assumption)))) fR fZ); rintro e w' ⟨s0, s1, s2, s3, s4, s5, rfl, fS, hv, hb⟩; have HS : Hid _ := hv; clear hv)
            | (go_at_call 5; go_fit (fmul6 (G.below (KB1.out _ (by first | with_reducible assumption | with_reducible exact KA1.out _ _ (by assumption) | with_reducible exact KD1.out _ (by assumption)))) fY fZ); rintro e w' ⟨t0, t1, t2, t3, t4, t5, rfl, fT, hv, hb⟩; have HT : Hid _ := hv; clear hv)
            | (go_at_call 5; go_fit (fmul6 (G.below (KB1.out _ (by first | with_reducible assumption | with_reducible exact KA1.out _ _ (by assumption) | with_reducible exact KD1.out _ (by assumption)))) fX fT); rintro e w' ⟨o0, o1, o2, o3, o4, o5, rfl, fU, hv, hb⟩; (have eq : [s0, s1, s2, s3, s4, s5] = [o0, o1, o2, o3, o4, o5] := (by refine v64_inj _ _ rfl fS fU ?_; exact law_assoc2 HR.out HS.out HT.out hv)); simp only [List.cons.injEq, and_true] at eq; obtain ⟨rfl, rfl, rfl, rfl, rfl, rfl⟩ := eq; have qa := eql_same s0 s1 s2 s3 s4 s5; clear hv))
        all_goals
          go_wp2_with fail
          go_meet
          exact ⟨rfl, by with_reducible assumption⟩
      case rest =>
        clear hS1
        obtain ⟨rfl, hS1⟩ := hcut
        go_upto_region 4 with fail
        go_cut [10] (fun p wx => p = .bool true ∧ Hd S1 wx)
        case first =>
          go_region_held3 (Hd S1)
            (first
              | with_reducible exact KP1.out _ _ _ _ _ _ _ _ (by assumption) (by first | (right; simp; done) | (left; omega)) (by omega)
              | with_reducible exact KL1.out _ _ (by assumption) hb
              | with_reducible exact KA1.out _ _ (by assumption)
              | with_reducible exact KS1.out _ _ _ (by omega) (by assumption)
              | with_reducible exact KD1.out _ hS1
              | with_reducible exact KD1.out _ (KA1.out _ _ hS1)
              | with_reducible assumption)
            (first
              | (go_at_call 4; go_fit (fadd6 (G.below (KB1.out _ (by first | with_reducible assumption | with_reducible exact KA1.out _ _ (by assumption) | with_reducible exact KD1.out _ (by assumption)))) fY fZ); rintro e w' ⟨r0, r1, r2, r3, r4, r5, rfl, fR, hv, hb⟩; have HR : Hid _ := hv; clear hv)
              | (go_at_call 5; go_fit (fmul6 (G.below (KB1.out _ (by first | with_reducible assumption | with_reducible exact KA1.out _ _ (by assumption) | with_reducible exact KD1.out _ (by assumption)))) fX fR); rintro e w' ⟨s0, s1, s2, s3, s4, s5, rfl, fS, hv, hb⟩; have HS : Hid _ := hv; clear hv)
              | (go_at_call 5; go_fit (fmul6 (G.below (KB1.out _ (by first | with_reducible assumption | with_reducible exact KA1.out _ _ (by assumption) | with_reducible exact KD1.out _ (by assumption)))) fX fY); rintro e w' ⟨t0, t1, t2, t3, t4, t5, rfl, fT, hv, hb⟩; have HT : Hid _ := hv; clear hv)
              | (go_at_call 5; go_fit (fmul6 (G.below (KB1.out _ (by first | with_reducible assumption | with_reducible exact KA1.out _ _ (by assumption) | with_reducible exact KD1.out _ (by assumption)))) fX fZ); rintro e w' ⟨p0, p1, p2, p3, p4, p5, rfl, fQ, hv, hb⟩; have HQ : Hid _ := hv; clear hv)
              | (go_at_call 4; go_fit (fadd6 (G.below (KB1.out _ (by first | with_reducible assumption | with_reducible exact KA1.out _ _ (by assumption) | with_reducible exact KD1.out _ (by assumption)))) fT fQ); rintro e w' ⟨o0, o1, o2, o3, o4, o5, rfl, fU, hv, hb⟩; (have eq : [s0, s1, s2, s3, s4, s5] = [o0, o1, o2, o3, o4, o5] := (by refine v64_inj _ _ rfl fS fU ?_; exact law_spread HR.out HS.out HT.out HQ.out hv)); simp only [List.cons.injEq, and_true] at eq; obtain ⟨rfl, rfl, rfl, rfl, rfl, rfl⟩ := eq; have qa := eql_same s0 s1 s2 s3 s4 s5; clear hv))
          all_goals
            go_wp2_with fail
            go_meet
            exact ⟨rfl, by with_reducible assumption⟩
        case rest =>
          clear hS1
          obtain ⟨rfl, hS1⟩ := hcut
          have q0 := eql_same 0 0 0 0 0 0
          go_upto_region 5 with fail
          go_cut [11] (fun p wx => p = .bool true ∧ Hd S1 wx)
          case first =>
            go_region_held3 (Hd S1)
              (first
                | with_reducible exact KP1.out _ _ _ _ _ _ _ _ (by assumption) (by first | (right; simp; done) | (left; omega)) (by omega)
                | with_reducible exact KL1.out _ _ (by assumption) hb
                | with_reducible exact KA1.out _ _ (by assumption)
                | with_reducible exact KS1.out _ _ _ (by omega) (by assumption)
                | with_reducible exact KD1.out _ hS1
                | with_reducible exact KD1.out _ (KA1.out _ _ hS1)
                | with_reducible assumption)
              (first
                | (go_at_call 6; go_fit (fsub6 (G.below (KB1.out _ (by first | with_reducible assumption | with_reducible exact KA1.out _ _ (by assumption) | with_reducible exact KD1.out _ (by assumption)))) fX fY); rintro e w' ⟨r0, r1, r2, r3, r4, r5, rfl, fR, hv, hb⟩; have HR : Hid _ := hv; clear hv)
                | (go_at_call 4; go_fit (fadd6 (G.below (KB1.out _ (by first | with_reducible assumption | with_reducible exact KA1.out _ _ (by assumption) | with_reducible exact KD1.out _ (by assumption)))) fR fY); rintro e w' ⟨s0, s1, s2, s3, s4, s5, rfl, fS, hv, hb⟩; have HS : Hid _ := hv; clear hv)
                | (go_at_call 7; go_fit (frest6 (G.below (KB1.out _ (by first | with_reducible assumption | with_reducible exact KA1.out _ _ (by assumption) | with_reducible exact KD1.out _ (by assumption)))) fX); rintro e w' ⟨o0, o1, o2, o3, o4, o5, rfl, fU, hv, hb⟩; (have eq : [s0, s1, s2, s3, s4, s5] = [o0, o1, o2, o3, o4, o5] := (by refine v64_inj _ _ rfl fS fU ?_; exact law_back HR.out HS.out hv)); simp only [List.cons.injEq, and_true] at eq; obtain ⟨rfl, rfl, rfl, rfl, rfl, rfl⟩ := eq; have qa := eql_same s0 s1 s2 s3 s4 s5; clear hv)
                | (go_at_call 8; go_fit (fneg6 (G.below (KB1.out _ (by first | with_reducible assumption | with_reducible exact KA1.out _ _ (by assumption) | with_reducible exact KD1.out _ (by assumption)))) fX); rintro e w' ⟨t0, t1, t2, t3, t4, t5, rfl, fT, hv, hb⟩; have HT : Hid _ := hv; clear hv)
                | (go_at_call 4; go_fit (fadd6 (G.below (KB1.out _ (by first | with_reducible assumption | with_reducible exact KA1.out _ _ (by assumption) | with_reducible exact KD1.out _ (by assumption)))) fX fT); rintro e w' ⟨p0, p1, p2, p3, p4, p5, rfl, fQ, hv, hb⟩; (have eq : [p0, p1, p2, p3, p4, p5] = [0, 0, 0, 0, 0, 0] := (by refine v64_inj _ _ rfl fQ (fits_zero 6) ?_; exact law_none HT.out hv)); simp only [List.cons.injEq, and_true] at eq; obtain ⟨rfl, rfl, rfl, rfl, rfl, rfl⟩ := eq; clear hv))
            all_goals
              go_wp2_with fail
              go_meet
              exact ⟨rfl, by with_reducible assumption⟩
          case rest =>
            clear hS1
            obtain ⟨rfl, hS1⟩ := hcut
            go_wp2_with fail
            refine (two_any (G.below (KB1.out _ hS1))).mono ?_
            rintro e w9 ⟨rfl, hb⟩
            have hS2 := KL1.out _ _ hS1 hb
            clear hb hS1
            go_wp2_with fail
            go_ret
            exact ⟨rfl, KB1.out _ hS2⟩
end Go.Proofs.YtflnfjekapngkabDoor
