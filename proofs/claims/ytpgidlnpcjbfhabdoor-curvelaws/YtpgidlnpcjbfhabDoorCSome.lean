/- The law's own helper 'some': a point of a raw number. -/
import Derived.Test.YtpgidlnpcjbfhabDoorRows
import Derived.Test.YtpgidlnpcjbfhabDoorCPt
import Derived.Test.YtpgidlnpcjbfhabDoorFRoot
import Derived.Deep.WholeRow
import Derived.Deep.RegionHeld3
import Derived.Deep.DeepCutAuto
import Derived.Deep.DeepFit
namespace Go.Proofs.YtpgidlnpcjbfhabDoor
open Go.RowKit

/-- what field.Root answers: a root, or an error -/
def RootIs (ev : Value) (X Y : Int) : Prop := (ev = .nilIface ∧ Lo Y ∧ Nu (Y * Y - X)) ∨ ev = .iface 54 (.int .i64 17)

theorem root_even {s : Int} (h : Lo s) : Lo (evenOf s) ∧ Nu (evenOf s * evenOf s - s * s) := by
  unfold evenOf
  by_cases k : s % 2 = 1
  · rw [if_pos k]
    have e := nu_emod (0 - s)
    refine ⟨lo_emod _, ?_⟩
    generalize (0 - s) % PP = z at *
    exact nu_of1 e (z - s) (by grind)
  · rw [if_neg k]
    exact ⟨h, Nu.to nu_zero (by omega)⟩

theorem froot' {x0 x1 x2 x3 x4 x5 : Int} {w : World} (G : Gls w) (fX : fits [x0, x1, x2, x3, x4, x5]) :
    Calls Tryd.prog 19 #[.agg #[.int .u64 x0, .int .u64 x1, .int .u64 x2, .int .u64 x3, .int .u64 x4, .int .u64 x5]] w fun e w' => ∃ (y0 y1 y2 y3 y4 y5 : Int) (ev : Value), e = .returned (.tuple #[.agg #[.int .u64 y0, .int .u64 y1, .int .u64 y2, .int .u64 y3, .int .u64 y4, .int .u64 y5], ev]) ∧ fits [y0, y1, y2, y3, y4, y5] ∧ RootIs ev (v64 [x0, x1, x2, x3, x4, x5]) (v64 [y0, y1, y2, y3, y4, y5]) ∧ Below w.heap.size w w' := by
  refine (froot6 G fX).mono ?_
  rintro e w' ⟨s0, s1, s2, s3, s4, s5, fS, hs, h, hb⟩
  rcases h with ⟨_, rfl⟩ | ⟨hq, z0, z1, z2, z3, z4, z5, rfl, fZ, hz⟩
  · exact ⟨0, 0, 0, 0, 0, 0, _, rfl, fits_zero 6, .inr rfl, hb⟩
  · have ls : Lo (v64 [s0, s1, s2, s3, s4, s5]) := by unfold Out at hs; rw [hs]; exact lo_emod _
    have e := root_even ls
    rw [← hz] at e
    refine ⟨z0, z1, z2, z3, z4, z5, _, rfl, fZ, .inl ⟨rfl, e.1, ?_⟩, hb⟩
    have h1 : Nu (v64 [s0, s1, s2, s3, s4, s5] * v64 [s0, s1, s2, s3, s4, s5] - v64 [x0, x1, x2, x3, x4, x5]) := nu_iff.2 (Int.emod_eq_emod_iff_emod_sub_eq_zero.1 hq)
    exact nu_of2 e.2 1 h1 1 (by grind)

theorem fBB : fits [3064076045283764975, 14291673747578343837, 221811693264799578, 1737717031765098770, 10992729701402291481, 12912154004749740004] := fits6 (by decide)
theorem vBB : v64 [3064076045283764975, 14291673747578343837, 221811693264799578, 1737717031765098770, 10992729701402291481, 12912154004749740004] = BB := by decide +kernel

/-- the number under the root -/
theorem some_rhs {z c d e r : Int} {q : Int} (hq : q = (z * z) % PP) (hc : c = (q * z) % PP) (hd : d = (3 * z) % PP) (he : e = (c - d) % PP) (hr : r = (e + BB) % PP) : Nu (r - (z * z * z - 3 * z + BB)) := by
  have e1 := nu_emod (z * z)
  rw [← hq] at e1
  have e2 := nu_emod (q * z)
  rw [← hc] at e2
  have e3 := nu_emod (3 * z)
  rw [← hd] at e3
  have e4 := nu_emod (c - d)
  rw [← he] at e4
  have e5 := nu_emod (e + BB)
  rw [← hr] at e5
  exact nu_of5 e5 1 e4 1 e2 1 e3 (-1) e1 z (by grind)

theorem some_told {X Y : List Int} {r : Int} (fX : fits X) (fY : fits Y) (lX : Lo (v64 X)) (lY : Lo (v64 Y)) (h : Nu (v64 Y * v64 Y - r)) (hr : Nu (r - (v64 X * v64 X * v64 X - 3 * v64 X + BB))) : OnC (some (v64 X, v64 Y)) ∧ Told (some (v64 X, v64 Y)) X Y false := by
  refine ⟨⟨lX, lY, ?_⟩, fX, fY, .inr ⟨rfl, rfl⟩⟩
  exact nu_of2 h 1 hr 1 (by grind)

theorem neg_sq {y z r : Int} (h : Nu (y * y - r)) (hz : z = (0 - y) % PP) : Nu (z * z - r) ∧ Lo z := by
  have e := nu_emod (0 - y)
  rw [← hz] at e
  exact ⟨nu_of2 h 1 e (z - y) (by grind), by rw [hz]; exact lo_emod _⟩

theorem iface_nilS : ∀ w : World, (binOp .eql 31 .nilIface .nilIface).run Tryd.prog w = .ok (.bool true) w := fun _ => by kernel_rfl
theorem iface_errS : ∀ w : World, (binOp .eql 31 (.iface 54 (.int .i64 17)) .nilIface).run Tryd.prog w = .ok (.bool false) w := fun _ => by kernel_rfl

/-- an answer that is a point -/
def PtRet (e : Ending) : Prop := ∃ (s0 s1 s2 s3 s4 s5 t0 t1 t2 t3 t4 t5 : Int) (n : Bool) (P : Pt), e = .returned (.agg #[.int .u64 s0, .int .u64 s1, .int .u64 s2, .int .u64 s3, .int .u64 s4, .int .u64 s5, .int .u64 t0, .int .u64 t1, .int .u64 t2, .int .u64 t3, .int .u64 t4, .int .u64 t5, .bool n]) ∧ Told P [s0, s1, s2, s3, s4, s5] [t0, t1, t2, t3, t4, t5] n ∧ OnC P

set_option maxRecDepth 100000 in
set_option maxHeartbeats 4000000 in
theorem some_ret {x0 x1 x2 x3 x4 x5 : Int} {odd : Bool} {w : World} (G : Gls w) (fX : fits [x0, x1, x2, x3, x4, x5]) :
    Calls Tryd.prog 6 #[.agg #[.int .u64 x0, .int .u64 x1, .int .u64 x2, .int .u64 x3, .int .u64 x4, .int .u64 x5], .bool odd] w fun e w' => PtRet e ∧ Below w.heap.size w w' := by
  have B0 := (Blk.new w [.int .u64 x0, .int .u64 x1, .int .u64 x2, .int .u64 x3, .int .u64 x4, .int .u64 x5] 24 (w.heap.size) rfl).alloc (.cells [.int .u64 0, .int .u64 0, .int .u64 0, .int .u64 0, .int .u64 0, .int .u64 0, .int .u64 0, .int .u64 0, .int .u64 0, .int .u64 0, .int .u64 0, .int .u64 0, .bool false].toArray 27)
  have B1 := Blk.new (w.alloc (.cells [.int .u64 x0, .int .u64 x1, .int .u64 x2, .int .u64 x3, .int .u64 x4, .int .u64 x5].toArray 24)) [.int .u64 0, .int .u64 0, .int .u64 0, .int .u64 0, .int .u64 0, .int .u64 0, .int .u64 0, .int .u64 0, .int .u64 0, .int .u64 0, .int .u64 0, .int .u64 0, .bool false] 27 (w.heap.size + 1) (by simp)
  have bel : Below w.heap.size w ((w.alloc (.cells [.int .u64 x0, .int .u64 x1, .int .u64 x2, .int .u64 x3, .int .u64 x4, .int .u64 x5].toArray 24)).alloc (.cells [.int .u64 0, .int .u64 0, .int .u64 0, .int .u64 0, .int .u64 0, .int .u64 0, .int .u64 0, .int .u64 0, .int .u64 0, .int .u64 0, .int .u64 0, .int .u64 0, .bool false].toArray 27)) := (((Below.refl _ _).alloc (Nat.le_refl _) _).alloc (by simp) _)
  go_enter Tryd.func6, Tryd.ntmps6
  go_upto_region 1 with fail
  generalize ((w.alloc (Obj.cells #[.int .u64 x0, .int .u64 x1, .int .u64 x2, .int .u64 x3, .int .u64 x4, .int .u64 x5] 24)).alloc (Obj.cells #[.int .u64 0, .int .u64 0, .int .u64 0, .int .u64 0, .int .u64 0, .int .u64 0, .int .u64 0, .int .u64 0, .int .u64 0, .int .u64 0, .int .u64 0, .int .u64 0, .bool false] 27)) = W at *
  have lt0 := B0.lt
  have c0 := B0.cell 0 _ rfl; have f0 := B0.frozen 0; have c1 := B0.cell 1 _ rfl; have f1 := B0.frozen 1; have c2 := B0.cell 2 _ rfl; have f2 := B0.frozen 2; have c3 := B0.cell 3 _ rfl; have f3 := B0.frozen 3; have c4 := B0.cell 4 _ rfl; have f4 := B0.frozen 4; have c5 := B0.cell 5 _ rfl; have f5 := B0.frozen 5
  go_wp2_with fail
  refine (frest6 (G.below bel) fX).mono ?_
  rintro e w1 ⟨z0, z1, z2, z3, z4, z5, rfl, fZ, hz, hb⟩
  have LZ : Hid (Lo (v64 [z0, z1, z2, z3, z4, z5])) := by rw [hz]; exact lo_emod _
  replace B0 := B0.later hb
  replace B1 := B1.later hb
  replace bel := below_step bel hb
  clear hb hz lt0 c0 c1 c2 c3 c4 c5 f0 f1 f2 f3 f4 f5 fX
  have lt0 := B0.lt
  have lt1 := B1.lt
  have c0 := B0.cell 0 _ rfl; have f0 := B0.frozen 0; have c1 := B0.cell 1 _ rfl; have f1 := B0.frozen 1; have c2 := B0.cell 2 _ rfl; have f2 := B0.frozen 2; have c3 := B0.cell 3 _ rfl; have f3 := B0.frozen 3; have c4 := B0.cell 4 _ rfl; have f4 := B0.frozen 4; have c5 := B0.cell 5 _ rfl; have f5 := B0.frozen 5
  go_wp2_with fail
  go_loopw [5] (fun t wx => ∃ (k : Nat) (z0 z1 z2 z3 z4 z5 : Int), (k : Int) ≤ 400 ∧ t = .int .i64 k ∧ fits [z0, z1, z2, z3, z4, z5] ∧ Hid (Lo (v64 [z0, z1, z2, z3, z4, z5])) ∧ Blk wx (w.heap.size) (us [z0, z1, z2, z3, z4, z5]) ∧ Blk wx (w.heap.size + 1) [.int .u64 0, .int .u64 0, .int .u64 0, .int .u64 0, .int .u64 0, .int .u64 0, .int .u64 0, .int .u64 0, .int .u64 0, .int .u64 0, .int .u64 0, .int .u64 0, .bool false] ∧ Below w.heap.size w wx) (fun t _ => (400 - intOf t).toNat)
  case atStart => exact ⟨0, z0, z1, z2, z3, z4, z5, by omega, rfl, fZ, LZ, blk_put6 B0, blk_far6 B1 (by omega), below_put6 bel (Nat.le_refl _)⟩
  case round =>
    clear B0 B1 bel LZ fZ lt0 lt1 c0 c1 c2 c3 c4 c5 f0 f1 f2 f3 f4 f5
    obtain ⟨k, z0, z1, z2, z3, z4, z5, hk, rfl, fZ, LZ, BZ, BR, bel⟩ := hrel
    simp only [us, List.map_cons, List.map_nil] at BZ
    have lt0 := BZ.lt
    have lt1 := BR.lt
    by_cases hlt : (k : Int) < 400
    · go_upto_region 5 with fail
      obtain ⟨W5, hW5⟩ : ∃ x : World, x = wr := ⟨_, rfl⟩
      rw [← hW5] at BZ BR bel lt0 lt1 ⊢
      clear hW5
      obtain ⟨S1, hS1, KL1, KA1, KD1, KS1, KQ1, KN1, KB1, KM1, KR1⟩ := held3 (w0 := w) (W := W5) [(w.heap.size, [.int .u64 z0, .int .u64 z1, .int .u64 z2, .int .u64 z3, .int .u64 z4, .int .u64 z5]), (w.heap.size + 1, [.int .u64 0, .int .u64 0, .int .u64 0, .int .u64 0, .int .u64 0, .int .u64 0, .int .u64 0, .int .u64 0, .int .u64 0, .int .u64 0, .int .u64 0, .int .u64 0, .bool false])] (by
        intro b X h
        simp only [List.mem_cons, List.not_mem_nil, or_false, Prod.mk.injEq] at h
        rcases h with ⟨rfl, rfl⟩ | ⟨rfl, rfl⟩
        · exact BZ
        · exact BR) bel
      have kb1a : ∀ wx, Hd S1 wx → Blk wx (w.heap.size) [.int .u64 z0, .int .u64 z1, .int .u64 z2, .int .u64 z3, .int .u64 z4, .int .u64 z5] := fun wx h => KM1.out wx _ _ h (by simp)
      have c1a0 := rulec kb1a 0 _ rfl
      have c1a1 := rulec kb1a 1 _ rfl
      have c1a2 := rulec kb1a 2 _ rfl
      have c1a3 := rulec kb1a 3 _ rfl
      have c1a4 := rulec kb1a 4 _ rfl
      have c1a5 := rulec kb1a 5 _ rfl
      have c1al := ruleb kb1a
      clear kb1a
      have kb1b : ∀ wx, Hd S1 wx → Blk wx (w.heap.size + 1) [.int .u64 0, .int .u64 0, .int .u64 0, .int .u64 0, .int .u64 0, .int .u64 0, .int .u64 0, .int .u64 0, .int .u64 0, .int .u64 0, .int .u64 0, .int .u64 0, .bool false] := fun wx h => KM1.out wx _ _ h (by simp)
      have c1b0 := rulec kb1b 0 _ rfl
      have c1b1 := rulec kb1b 1 _ rfl
      have c1b2 := rulec kb1b 2 _ rfl
      have c1b3 := rulec kb1b 3 _ rfl
      have c1b4 := rulec kb1b 4 _ rfl
      have c1b5 := rulec kb1b 5 _ rfl
      have c1b6 := rulec kb1b 6 _ rfl
      have c1b7 := rulec kb1b 7 _ rfl
      have c1b8 := rulec kb1b 8 _ rfl
      have c1b9 := rulec kb1b 9 _ rfl
      have c1b10 := rulec kb1b 10 _ rfl
      have c1b11 := rulec kb1b 11 _ rfl
      have c1b12 := rulec kb1b 12 _ rfl
      have c1bl := ruleb kb1b
      clear kb1b
      have hN1 := bel.size
      clear BZ BR bel
      go_cut [6] from 12 to 44 (fun p wx => ∃ (b : Nat) (c0 c1 c2 c3 c4 c5 : Int), p = .pointer (some ⟨b, 0, none⟩) ∧ W5.heap.size ≤ b ∧ fits [c0, c1, c2, c3, c4, c5] ∧ Hid (∃ q, q = (v64 [z0, z1, z2, z3, z4, z5] * v64 [z0, z1, z2, z3, z4, z5]) % PP ∧ v64 [c0, c1, c2, c3, c4, c5] = (q * v64 [z0, z1, z2, z3, z4, z5]) % PP) ∧ Blk wx b (us [c0, c1, c2, c3, c4, c5]) ∧ Hd S1 wx)
      case first =>
        go_region_held3 (Hd S1)
          (first
            | with_reducible exact (KQ1.out _ _ _ _ (KQ1.out _ _ _ _ (KQ1.out _ _ _ _ (KQ1.out _ _ _ _ (KQ1.out _ _ _ _ (KQ1.out _ _ _ _ (by assumption) (Or.inl (by omega)) (by omega)) (Or.inl (by omega)) (by omega)) (Or.inl (by omega)) (by omega)) (Or.inl (by omega)) (by omega)) (Or.inl (by omega)) (by omega)) (Or.inl (by omega)) (by omega))
            | with_reducible exact KL1.out _ _ (by assumption) hb
            | with_reducible exact KA1.out _ _ (by assumption)
            | with_reducible exact KS1.out _ _ _ (by omega) (by assumption)
            | with_reducible exact KD1.out _ hS1
            | with_reducible exact KD1.out _ (KA1.out _ _ hS1)
            | with_reducible assumption)
          (first
            | (go_at_call 16; go_fit (fmul6 (G.below (KB1.out _ (by first | with_reducible assumption | with_reducible exact KA1.out _ _ (by assumption) | with_reducible exact KD1.out _ (by assumption)))) fZ fZ); rintro e w' ⟨q0, q1, q2, q3, q4, q5, rfl, fQ, hv, hb⟩; have HQ : Hid _ := hv; clear hv; (first | replace BN := BN.later hb | with_reducible have BN := Wr6.later Wr6.new hb | with_reducible have BN := Wr6.later (Wr6.drew Wr6.new) hb | skip); have hlt := KN1.out _ (KL1.out _ _ (by assumption) hb))
            | (go_at_call 16; go_fit (fmul6 (G.below (KB1.out _ (by first | with_reducible assumption | with_reducible exact KA1.out _ _ (by assumption) | with_reducible exact KD1.out _ (by assumption)))) fQ fZ); rintro e w' ⟨c0, c1, c2, c3, c4, c5, rfl, fC, hv, hb⟩; have HC : Hid _ := hv; clear hv; (first | replace BN := BN.later hb | with_reducible have BN := Wr6.later Wr6.new hb | with_reducible have BN := Wr6.later (Wr6.drew Wr6.new) hb | skip); have hlt := KN1.out _ (KL1.out _ _ (by assumption) hb); (first | (obtain ⟨o0, o1, o2, o3, o4, o5, ⟨j0, j1, j2, j3, j4, j5⟩, ⟨i0, i1, i2, i3, i4, i5⟩⟩ := BN.cells) | skip)))
        all_goals
          go_wp2_with fail
          go_meet
          refine ⟨_, c0, c1, c2, c3, c4, c5, rfl, by omega, fC, ⟨_, HQ.out, HC.out⟩, ?_, by with_reducible assumption⟩
          first
            | with_reducible exact Wr6.is BN
            | exact Blk.new w' (us [c0, c1, c2, c3, c4, c5]) 24 w'.heap.size rfl
      case rest =>
        clear hS1
        obtain ⟨bc, c0, c1, c2, c3, c4, c5, rfl, hbc, fC, HC0, BC, hS1⟩ := hcut
        obtain ⟨qq, HC⟩ : ∃ qq, Hid (True ∧ qq = (v64 [z0, z1, z2, z3, z4, z5] * v64 [z0, z1, z2, z3, z4, z5]) % PP ∧ v64 [c0, c1, c2, c3, c4, c5] = (qq * v64 [z0, z1, z2, z3, z4, z5]) % PP) := by
          obtain ⟨qq, hq⟩ := HC0.out
          exact ⟨qq, ⟨trivial, hq⟩⟩
        clear HC0
        go_wp2_with fail
        refine r5_B.mono ?_
        rintro e w6 ⟨vb, rfl, NB, hb⟩
        replace hS1 := KL1.out _ _ hS1 hb
        replace BC := BC.later hb
        clear hb
        go_wp2_with fail
        refine (to6_is NB fBB vBB).mono ?_
        rintro e w7 ⟨rfl, hb⟩
        replace hS1 := KL1.out _ _ hS1 hb
        replace BC := BC.later hb
        clear hb NB
        have hl7 := KN1.out _ hS1
        have ltc := BC.lt
        go_upto_region 7 with fail
        have BD := Blk.new w7 (us [3064076045283764975, 14291673747578343837, 221811693264799578, 1737717031765098770, 10992729701402291481, 12912154004749740004]) 23 w7.heap.size rfl
        replace BC := BC.alloc (.cells (us [3064076045283764975, 14291673747578343837, 221811693264799578, 1737717031765098770, 10992729701402291481, 12912154004749740004]).toArray 23)
        replace hS1 := KA1.out _ (.cells (us [3064076045283764975, 14291673747578343837, 221811693264799578, 1737717031765098770, 10992729701402291481, 12912154004749740004]).toArray 23) hS1
        simp only [us, List.map_cons, List.map_nil] at BC BD hS1
        obtain ⟨bd, hbd⟩ : ∃ b, b = w7.heap.size := ⟨_, rfl⟩
        generalize w7.alloc (Obj.cells #[.int .u64 3064076045283764975, .int .u64 14291673747578343837, .int .u64 221811693264799578, .int .u64 1737717031765098770, .int .u64 10992729701402291481, .int .u64 12912154004749740004] 23) = W7 at *
        rw [← hbd] at BD hl7 ltc ⊢
        clear hbd
        have BZ := KM1.out _ (w.heap.size) _ hS1 (List.mem_cons_self)
        have BR := KM1.out _ (w.heap.size + 1) _ hS1 (List.mem_cons_of_mem _ List.mem_cons_self)
        have bel := KB1.out _ hS1
        clear hS1 c1a0 c1a1 c1a2 c1a3 c1a4 c1a5 c1al c1b0 c1b1 c1b2 c1b3 c1b4 c1b5 c1b6 c1b7 c1b8 c1b9 c1b10 c1b11 c1b12 c1bl
        obtain ⟨S2, hS2, KL2, KA2, KD2, KS2, KQ2, KN2, KB2, KM2, KR2⟩ := held3 (w0 := w) (W := W7) [(w.heap.size, [.int .u64 z0, .int .u64 z1, .int .u64 z2, .int .u64 z3, .int .u64 z4, .int .u64 z5]), (w.heap.size + 1, [.int .u64 0, .int .u64 0, .int .u64 0, .int .u64 0, .int .u64 0, .int .u64 0, .int .u64 0, .int .u64 0, .int .u64 0, .int .u64 0, .int .u64 0, .int .u64 0, .bool false]), (bc, [.int .u64 c0, .int .u64 c1, .int .u64 c2, .int .u64 c3, .int .u64 c4, .int .u64 c5]), (bd, [.int .u64 3064076045283764975, .int .u64 14291673747578343837, .int .u64 221811693264799578, .int .u64 1737717031765098770, .int .u64 10992729701402291481, .int .u64 12912154004749740004])] (by
          intro b X h
          simp only [List.mem_cons, List.not_mem_nil, or_false, Prod.mk.injEq] at h
          rcases h with ⟨rfl, rfl⟩ | ⟨rfl, rfl⟩ | ⟨rfl, rfl⟩ | ⟨rfl, rfl⟩
          · exact BZ
          · exact BR
          · exact BC
          · exact BD) bel
        have kb2a : ∀ wx, Hd S2 wx → Blk wx (w.heap.size) [.int .u64 z0, .int .u64 z1, .int .u64 z2, .int .u64 z3, .int .u64 z4, .int .u64 z5] := fun wx h => KM2.out wx _ _ h (by simp)
        have c2a0 := rulec kb2a 0 _ rfl
        have c2a1 := rulec kb2a 1 _ rfl
        have c2a2 := rulec kb2a 2 _ rfl
        have c2a3 := rulec kb2a 3 _ rfl
        have c2a4 := rulec kb2a 4 _ rfl
        have c2a5 := rulec kb2a 5 _ rfl
        have c2al := ruleb kb2a
        clear kb2a
        have kb2b : ∀ wx, Hd S2 wx → Blk wx (w.heap.size + 1) [.int .u64 0, .int .u64 0, .int .u64 0, .int .u64 0, .int .u64 0, .int .u64 0, .int .u64 0, .int .u64 0, .int .u64 0, .int .u64 0, .int .u64 0, .int .u64 0, .bool false] := fun wx h => KM2.out wx _ _ h (by simp)
        have c2b0 := rulec kb2b 0 _ rfl
        have c2b1 := rulec kb2b 1 _ rfl
        have c2b2 := rulec kb2b 2 _ rfl
        have c2b3 := rulec kb2b 3 _ rfl
        have c2b4 := rulec kb2b 4 _ rfl
        have c2b5 := rulec kb2b 5 _ rfl
        have c2b6 := rulec kb2b 6 _ rfl
        have c2b7 := rulec kb2b 7 _ rfl
        have c2b8 := rulec kb2b 8 _ rfl
        have c2b9 := rulec kb2b 9 _ rfl
        have c2b10 := rulec kb2b 10 _ rfl
        have c2b11 := rulec kb2b 11 _ rfl
        have c2b12 := rulec kb2b 12 _ rfl
        have c2bl := ruleb kb2b
        clear kb2b
        have kb2c : ∀ wx, Hd S2 wx → Blk wx (bc) [.int .u64 c0, .int .u64 c1, .int .u64 c2, .int .u64 c3, .int .u64 c4, .int .u64 c5] := fun wx h => KM2.out wx _ _ h (by simp)
        have c2c0 := rulec kb2c 0 _ rfl
        have c2c1 := rulec kb2c 1 _ rfl
        have c2c2 := rulec kb2c 2 _ rfl
        have c2c3 := rulec kb2c 3 _ rfl
        have c2c4 := rulec kb2c 4 _ rfl
        have c2c5 := rulec kb2c 5 _ rfl
        have c2cl := ruleb kb2c
        clear kb2c
        have kb2d : ∀ wx, Hd S2 wx → Blk wx (bd) [.int .u64 3064076045283764975, .int .u64 14291673747578343837, .int .u64 221811693264799578, .int .u64 1737717031765098770, .int .u64 10992729701402291481, .int .u64 12912154004749740004] := fun wx h => KM2.out wx _ _ h (by simp)
        have c2d0 := rulec kb2d 0 _ rfl
        have c2d1 := rulec kb2d 1 _ rfl
        have c2d2 := rulec kb2d 2 _ rfl
        have c2d3 := rulec kb2d 3 _ rfl
        have c2d4 := rulec kb2d 4 _ rfl
        have c2d5 := rulec kb2d 5 _ rfl
        have c2dl := ruleb kb2d
        clear kb2d
        have ltd := BD.lt
        have hN2 := bel.size
        clear BZ BR BC BD bel
        have f3 : fits [3, 0, 0, 0, 0, 0] := fits6 (by decide)
        go_cut [8, 9] from 12 to 44 (fun p ev wx => ∃ (b : Nat) (y0 y1 y2 y3 y4 y5 : Int), p = .pointer (some ⟨b, 0, none⟩) ∧ W7.heap.size ≤ b ∧ fits [y0, y1, y2, y3, y4, y5] ∧ Hid (∃ r, RootIs ev r (v64 [y0, y1, y2, y3, y4, y5]) ∧ Nu (r - (v64 [z0, z1, z2, z3, z4, z5] * v64 [z0, z1, z2, z3, z4, z5] * v64 [z0, z1, z2, z3, z4, z5] - 3 * v64 [z0, z1, z2, z3, z4, z5] + BB))) ∧ Blk wx b (us [y0, y1, y2, y3, y4, y5]) ∧ Hd S2 wx)
        case first =>
          go_region_held3 (Hd S2)
            (first
              | with_reducible exact (KQ2.out _ _ _ _ (KQ2.out _ _ _ _ (KQ2.out _ _ _ _ (KQ2.out _ _ _ _ (KQ2.out _ _ _ _ (KQ2.out _ _ _ _ (by assumption) (Or.inl (by omega)) (by omega)) (Or.inl (by omega)) (by omega)) (Or.inl (by omega)) (by omega)) (Or.inl (by omega)) (by omega)) (Or.inl (by omega)) (by omega)) (Or.inl (by omega)) (by omega))
              | with_reducible exact KL2.out _ _ (by assumption) hb
              | with_reducible exact KA2.out _ _ (by assumption)
              | with_reducible exact KS2.out _ _ _ (by omega) (by assumption)
              | with_reducible exact KD2.out _ hS2
              | with_reducible exact KD2.out _ (KA2.out _ _ hS2)
              | with_reducible assumption)
            (first
              | (go_at_call 16; go_fit (fmul6 (G.below (KB2.out _ (by first | with_reducible assumption | with_reducible exact KA2.out _ _ (by assumption) | with_reducible exact KD2.out _ (by assumption)))) f3 fZ); rintro e w' ⟨d0, d1, d2, d3, d4, d5, rfl, fD, hv, hb⟩; have HD : Hid _ := hv; clear hv; (first | replace BN := BN.later hb | with_reducible have BN := Wr6.later Wr6.new hb | with_reducible have BN := Wr6.later (Wr6.drew Wr6.new) hb | skip); have hlt := KN2.out _ (KL2.out _ _ (by assumption) hb))
              | (go_at_call 21; go_fit (fsub6 (G.below (KB2.out _ (by first | with_reducible assumption | with_reducible exact KA2.out _ _ (by assumption) | with_reducible exact KD2.out _ (by assumption)))) fC fD); rintro e w' ⟨e0, e1, e2, e3, e4, e5, rfl, fE, hv, hb⟩; have HE : Hid _ := hv; clear hv; (first | replace BN := BN.later hb | with_reducible have BN := Wr6.later Wr6.new hb | with_reducible have BN := Wr6.later (Wr6.drew Wr6.new) hb | skip); have hlt := KN2.out _ (KL2.out _ _ (by assumption) hb))
              | (go_at_call 20; go_fit (fadd6 (G.below (KB2.out _ (by first | with_reducible assumption | with_reducible exact KA2.out _ _ (by assumption) | with_reducible exact KD2.out _ (by assumption)))) fE fBB); rintro e w' ⟨r0, r1, r2, r3, r4, r5, rfl, fR, hv, hb⟩; have HR : Hid _ := hv; clear hv; (first | replace BN := BN.later hb | with_reducible have BN := Wr6.later Wr6.new hb | with_reducible have BN := Wr6.later (Wr6.drew Wr6.new) hb | skip); have hlt := KN2.out _ (KL2.out _ _ (by assumption) hb))
              | (go_at_call 19; go_fit (froot' (G.below (KB2.out _ (by first | with_reducible assumption | with_reducible exact KA2.out _ _ (by assumption) | with_reducible exact KD2.out _ (by assumption)))) fR); rintro e w' ⟨y0, y1, y2, y3, y4, y5, ev, rfl, fY, hv, hb⟩; have HY : Hid _ := hv; clear hv; (first | replace BN := BN.later hb | with_reducible have BN := Wr6.later Wr6.new hb | with_reducible have BN := Wr6.later (Wr6.drew Wr6.new) hb | skip); have hlt := KN2.out _ (KL2.out _ _ (by assumption) hb); (first | (obtain ⟨o0, o1, o2, o3, o4, o5, ⟨j0, j1, j2, j3, j4, j5⟩, ⟨i0, i1, i2, i3, i4, i5⟩⟩ := BN.cells) | skip)))
          all_goals
            go_wp2_with fail
            go_meet
            refine ⟨_, y0, y1, y2, y3, y4, y5, rfl, by omega, fY, ⟨_, HY.out, some_rhs HC.out.2.1 HC.out.2.2 HD.out HE.out (by rw [← vBB]; exact HR.out)⟩, ?_, by with_reducible assumption⟩
            first
              | with_reducible exact Wr6.is BN
              | exact Blk.new w' (us [y0, y1, y2, y3, y4, y5]) 24 w'.heap.size rfl
        case rest =>
          clear hS2 f3 fC HC
          obtain ⟨by_, y0, y1, y2, y3, y4, y5, hp, hby, fY, HY, BY, hS2⟩ := hcut
          subst hp
          have lty := BY.lt
          obtain ⟨r, hr1, hr2⟩ := HY.out
          clear HY
          have HR2 : Hid _ := hr2
          clear hr2
          simp only [us, List.map_cons, List.map_nil] at BY
          rcases hr1 with ⟨rfl, ly, hq⟩ | rfl
          · have HQ : Hid _ := hq
            have LY : Hid _ := ly
            clear hq ly
            have q1 := iface_nilS
            cases odd with
            | false =>
              have TT : Hid _ := some_told fZ fY LZ.out LY.out HQ.out HR2.out
              have BR := KM2.out _ (w.heap.size + 1) _ hS2 (List.mem_cons_of_mem _ List.mem_cons_self)
              have d0 := BR.cell 0 _ rfl; have g0 := BR.frozen 0; have d1 := BR.cell 1 _ rfl; have g1 := BR.frozen 1; have d2 := BR.cell 2 _ rfl; have g2 := BR.frozen 2; have d3 := BR.cell 3 _ rfl; have g3 := BR.frozen 3; have d4 := BR.cell 4 _ rfl; have g4 := BR.frozen 4; have d5 := BR.cell 5 _ rfl; have g5 := BR.frozen 5; have d6 := BR.cell 6 _ rfl; have g6 := BR.frozen 6; have d7 := BR.cell 7 _ rfl; have g7 := BR.frozen 7; have d8 := BR.cell 8 _ rfl; have g8 := BR.frozen 8; have d9 := BR.cell 9 _ rfl; have g9 := BR.frozen 9; have d10 := BR.cell 10 _ rfl; have g10 := BR.frozen 10; have d11 := BR.cell 11 _ rfl; have g11 := BR.frozen 11; have d12 := BR.cell 12 _ rfl; have g12 := BR.frozen 12
              have ltr := BR.lt
              have c0 := BY.cell 0 _ rfl; have f0 := BY.frozen 0; have c1 := BY.cell 1 _ rfl; have f1 := BY.frozen 1; have c2 := BY.cell 2 _ rfl; have f2 := BY.frozen 2; have c3 := BY.cell 3 _ rfl; have f3 := BY.frozen 3; have c4 := BY.cell 4 _ rfl; have f4 := BY.frozen 4; have c5 := BY.cell 5 _ rfl; have f5 := BY.frozen 5
              go_wp2_with fail
              exact bodyPost_ret (v := .agg #[.int .u64 z0, .int .u64 z1, .int .u64 z2, .int .u64 z3, .int .u64 z4, .int .u64 z5, .int .u64 y0, .int .u64 y1, .int .u64 y2, .int .u64 y3, .int .u64 y4, .int .u64 y5, .bool false]) (by simp [results, Tryd.results6, go_sem, d0, d1, d2, d3, d4, d5, d6, d7, d8, d9, d10, d11, d12]) rfl ⟨⟨z0, z1, z2, z3, z4, z5, y0, y1, y2, y3, y4, y5, false, _, rfl, TT.out.2, TT.out.1⟩, below_put13 (KB2.out _ hS2) (by omega)⟩
            | true =>
              have c0 := BY.cell 0 _ rfl; have f0 := BY.frozen 0; have c1 := BY.cell 1 _ rfl; have f1 := BY.frozen 1; have c2 := BY.cell 2 _ rfl; have f2 := BY.frozen 2; have c3 := BY.cell 3 _ rfl; have f3 := BY.frozen 3; have c4 := BY.cell 4 _ rfl; have f4 := BY.frozen 4; have c5 := BY.cell 5 _ rfl; have f5 := BY.frozen 5
              go_wp2_with fail
              refine (fneg6 (G.below (KB2.out _ hS2)) fY).mono ?_
              rintro e w9 ⟨t0, t1, t2, t3, t4, t5, rfl, fT, ht, hb⟩
              have NS := neg_sq HQ.out ht
              clear HQ LY ht c0 c1 c2 c3 c4 c5 f0 f1 f2 f3 f4 f5
              have HQ : Hid _ := NS.1
              have LY : Hid _ := NS.2
              clear NS
              replace hS2 := KL2.out _ _ hS2 hb
              replace BY := BY.later hb
              clear hb lty
              have lty := BY.lt
              have c0 := BY.cell 0 _ rfl; have f0 := BY.frozen 0; have c1 := BY.cell 1 _ rfl; have f1 := BY.frozen 1; have c2 := BY.cell 2 _ rfl; have f2 := BY.frozen 2; have c3 := BY.cell 3 _ rfl; have f3 := BY.frozen 3; have c4 := BY.cell 4 _ rfl; have f4 := BY.frozen 4; have c5 := BY.cell 5 _ rfl; have f5 := BY.frozen 5
              go_upto_region 11 with fail
              replace BY := blk_put6 (y0 := t0) (y1 := t1) (y2 := t2) (y3 := t3) (y4 := t4) (y5 := t5) BY
              replace hS2 : Hd S2 ((((((w9.setCell ⟨by_, 0, none⟩ (.int .u64 t0)).setCell ⟨by_, 1, none⟩ (.int .u64 t1)).setCell ⟨by_, 2, none⟩ (.int .u64 t2)).setCell ⟨by_, 3, none⟩ (.int .u64 t3)).setCell ⟨by_, 4, none⟩ (.int .u64 t4)).setCell ⟨by_, 5, none⟩ (.int .u64 t5)) := (KQ2.out _ _ _ _ (KQ2.out _ _ _ _ (KQ2.out _ _ _ _ (KQ2.out _ _ _ _ (KQ2.out _ _ _ _ (KQ2.out _ _ _ _ hS2 (Or.inl hby) (by omega)) (Or.inl hby) (by omega)) (Or.inl hby) (by omega)) (Or.inl hby) (by omega)) (Or.inl hby) (by omega)) (Or.inl hby) (by omega))
              clear lty c0 c1 c2 c3 c4 c5 f0 f1 f2 f3 f4 f5
              generalize ((((((w9.setCell ⟨by_, 0, none⟩ (.int .u64 t0)).setCell ⟨by_, 1, none⟩ (.int .u64 t1)).setCell ⟨by_, 2, none⟩ (.int .u64 t2)).setCell ⟨by_, 3, none⟩ (.int .u64 t3)).setCell ⟨by_, 4, none⟩ (.int .u64 t4)).setCell ⟨by_, 5, none⟩ (.int .u64 t5)) = W9 at *
              simp only [us, List.map_cons, List.map_nil] at BY
              have lty := BY.lt
              have TT : Hid _ := some_told fZ fT LZ.out LY.out HQ.out HR2.out
              have BR := KM2.out _ (w.heap.size + 1) _ hS2 (List.mem_cons_of_mem _ List.mem_cons_self)
              have d0 := BR.cell 0 _ rfl; have g0 := BR.frozen 0; have d1 := BR.cell 1 _ rfl; have g1 := BR.frozen 1; have d2 := BR.cell 2 _ rfl; have g2 := BR.frozen 2; have d3 := BR.cell 3 _ rfl; have g3 := BR.frozen 3; have d4 := BR.cell 4 _ rfl; have g4 := BR.frozen 4; have d5 := BR.cell 5 _ rfl; have g5 := BR.frozen 5; have d6 := BR.cell 6 _ rfl; have g6 := BR.frozen 6; have d7 := BR.cell 7 _ rfl; have g7 := BR.frozen 7; have d8 := BR.cell 8 _ rfl; have g8 := BR.frozen 8; have d9 := BR.cell 9 _ rfl; have g9 := BR.frozen 9; have d10 := BR.cell 10 _ rfl; have g10 := BR.frozen 10; have d11 := BR.cell 11 _ rfl; have g11 := BR.frozen 11; have d12 := BR.cell 12 _ rfl; have g12 := BR.frozen 12
              have ltr := BR.lt
              have c0 := BY.cell 0 _ rfl; have f0 := BY.frozen 0; have c1 := BY.cell 1 _ rfl; have f1 := BY.frozen 1; have c2 := BY.cell 2 _ rfl; have f2 := BY.frozen 2; have c3 := BY.cell 3 _ rfl; have f3 := BY.frozen 3; have c4 := BY.cell 4 _ rfl; have f4 := BY.frozen 4; have c5 := BY.cell 5 _ rfl; have f5 := BY.frozen 5
              go_wp2_with fail
              exact bodyPost_ret (v := .agg #[.int .u64 z0, .int .u64 z1, .int .u64 z2, .int .u64 z3, .int .u64 z4, .int .u64 z5, .int .u64 t0, .int .u64 t1, .int .u64 t2, .int .u64 t3, .int .u64 t4, .int .u64 t5, .bool false]) (by simp [results, Tryd.results6, go_sem, d0, d1, d2, d3, d4, d5, d6, d7, d8, d9, d10, d11, d12]) rfl ⟨⟨z0, z1, z2, z3, z4, z5, t0, t1, t2, t3, t4, t5, false, _, rfl, TT.out.2, TT.out.1⟩, below_put13 (KB2.out _ hS2) (by omega)⟩
          · have q1 := iface_errS
            go_wp2_with fail
            refine (fadd6 (G.below (KB2.out _ hS2)) fZ fits_one).mono ?_
            rintro e w9 ⟨t0, t1, t2, t3, t4, t5, rfl, fT, ht, hb⟩
            have LT : Hid (Lo (v64 [t0, t1, t2, t3, t4, t5])) := by rw [ht]; exact lo_emod _
            replace hS2 := KL2.out _ _ hS2 hb
            clear hb ht
            have BZ := KM2.out _ (w.heap.size) _ hS2 (List.mem_cons_self)
            have BR := KM2.out _ (w.heap.size + 1) _ hS2 (List.mem_cons_of_mem _ List.mem_cons_self)
            have c0 := BZ.cell 0 _ rfl; have f0 := BZ.frozen 0; have c1 := BZ.cell 1 _ rfl; have f1 := BZ.frozen 1; have c2 := BZ.cell 2 _ rfl; have f2 := BZ.frozen 2; have c3 := BZ.cell 3 _ rfl; have f3 := BZ.frozen 3; have c4 := BZ.cell 4 _ rfl; have f4 := BZ.frozen 4; have c5 := BZ.cell 5 _ rfl; have f5 := BZ.frozen 5
            have ltz := BZ.lt
            go_wp2_with fail
            go_roundw
            case rel => exact ⟨k + 1, t0, t1, t2, t3, t4, t5, by omega, by go_num, fT, LT, blk_put6 BZ, blk_far6 BR (by omega), below_put6 (KB2.out _ hS2) (Nat.le_refl _)⟩
            case measure => simp [intOf]; omega
    · have hkn : (k : Int) = 400 := by omega
      have hge : ¬ (k : Int) < 400 := hlt
      have d0 := BR.cell 0 _ rfl; have g0 := BR.frozen 0; have d1 := BR.cell 1 _ rfl; have g1 := BR.frozen 1; have d2 := BR.cell 2 _ rfl; have g2 := BR.frozen 2; have d3 := BR.cell 3 _ rfl; have g3 := BR.frozen 3; have d4 := BR.cell 4 _ rfl; have g4 := BR.frozen 4; have d5 := BR.cell 5 _ rfl; have g5 := BR.frozen 5; have d6 := BR.cell 6 _ rfl; have g6 := BR.frozen 6; have d7 := BR.cell 7 _ rfl; have g7 := BR.frozen 7; have d8 := BR.cell 8 _ rfl; have g8 := BR.frozen 8; have d9 := BR.cell 9 _ rfl; have g9 := BR.frozen 9; have d10 := BR.cell 10 _ rfl; have g10 := BR.frozen 10; have d11 := BR.cell 11 _ rfl; have g11 := BR.frozen 11; have d12 := BR.cell 12 _ rfl; have g12 := BR.frozen 12
      go_wp2_with fail
      exact bodyPost_ret (v := .agg #[.int .u64 0, .int .u64 0, .int .u64 0, .int .u64 0, .int .u64 0, .int .u64 0, .int .u64 0, .int .u64 0, .int .u64 0, .int .u64 0, .int .u64 0, .int .u64 0, .bool true]) (by simp [results, Tryd.results6, go_sem, d0, d1, d2, d3, d4, d5, d6, d7, d8, d9, d10, d11, d12]) rfl ⟨⟨0, 0, 0, 0, 0, 0, 0, 0, 0, 0, 0, 0, true, none, rfl, told_zero, trivial⟩, below_put13 bel (by omega)⟩

theorem some_any {x0 x1 x2 x3 x4 x5 : Int} {odd : Bool} {w : World} (G : Gls w) (fX : fits [x0, x1, x2, x3, x4, x5]) :
    Calls Tryd.prog 6 #[.agg #[.int .u64 x0, .int .u64 x1, .int .u64 x2, .int .u64 x3, .int .u64 x4, .int .u64 x5], .bool odd] w fun e w' => ∃ (s0 s1 s2 s3 s4 s5 t0 t1 t2 t3 t4 t5 : Int) (n : Bool) (P : Pt), e = .returned (.agg #[.int .u64 s0, .int .u64 s1, .int .u64 s2, .int .u64 s3, .int .u64 s4, .int .u64 s5, .int .u64 t0, .int .u64 t1, .int .u64 t2, .int .u64 t3, .int .u64 t4, .int .u64 t5, .bool n]) ∧ Told P [s0, s1, s2, s3, s4, s5] [t0, t1, t2, t3, t4, t5] n ∧ OnC P ∧ Below w.heap.size w w' := by
  refine (some_ret G fX).mono ?_
  rintro e w' ⟨⟨s0, s1, s2, s3, s4, s5, t0, t1, t2, t3, t4, t5, n, P, h1, h2, h3⟩, hb⟩
  exact ⟨s0, s1, s2, s3, s4, s5, t0, t1, t2, t3, t4, t5, n, P, h1, h2, h3, hb⟩
end Go.Proofs.YtpgidlnpcjbfhabDoor
