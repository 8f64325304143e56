/- modp.Exp: a power's rest, by 384 squarings and products. -/
import Derived.Test.YtjpnbbhpgchbpaaDoorRows
import Derived.Test.YtjpnbbhpgchbpaaDoorMMul
import Derived.Test.YtjpnbbhpgchbpaaDoorLimb
import Derived.Test.YtjpnbbhpgchbpaaDoorBase
import Derived.Deep.RegionHeld3
import Derived.Deep.DeepCutAuto
import Derived.Deep.DeepFit
namespace Go.Proofs.YtjpnbbhpgchbpaaDoor
open Go.RowKit

theorem one_v : v64 [1, 0, 0, 0, 0, 0] = 1 := by simp [v64, pv]

theorem bit_bd (K : List Int) (j : Nat) {b : Nat} (h : bitN K j = ((b % 2 : Nat) : Int)) : 0 ≤ bitN K j ∧ bitN K j < 18446744073709551616 := by
  omega

set_option linter.unusedSimpArgs false in
set_option maxRecDepth 100000 in
set_option maxHeartbeats 8000000 in
theorem exp6 {x0 x1 x2 x3 x4 x5 k0 k1 k2 k3 k4 k5 m0 m1 m2 m3 m4 m5 i t0 t1 t2 t3 t4 t5 : Int} {w : World} (fX : fits [x0, x1, x2, x3, x4, x5]) (fK : fits [k0, k1, k2, k3, k4, k5]) (hm : IsMod [m0, m1, m2, m3, m4, m5] i [t0, t1, t2, t3, t4, t5]) :
    Calls Tryd.prog 36 #[.agg #[.int .u64 x0, .int .u64 x1, .int .u64 x2, .int .u64 x3, .int .u64 x4, .int .u64 x5], .agg #[.int .u64 k0, .int .u64 k1, .int .u64 k2, .int .u64 k3, .int .u64 k4, .int .u64 k5], .agg #[.int .u64 m0, .int .u64 m1, .int .u64 m2, .int .u64 m3, .int .u64 m4, .int .u64 m5, .int .u64 i, .int .u64 t0, .int .u64 t1, .int .u64 t2, .int .u64 t3, .int .u64 t4, .int .u64 t5]] w fun e w' => ∃ z0 z1 z2 z3 z4 z5 : Int, e = .returned (.agg #[.int .u64 z0, .int .u64 z1, .int .u64 z2, .int .u64 z3, .int .u64 z4, .int .u64 z5]) ∧ fits [z0, z1, z2, z3, z4, z5] ∧ v64 [z0, z1, z2, z3, z4, z5] = (v64 [x0, x1, x2, x3, x4, x5]) ^ (v64 [k0, k1, k2, k3, k4, k5]).toNat % v64 [m0, m1, m2, m3, m4, m5] ∧ Below w.heap.size w w' := by
  have HM : Hid _ := hm
  have fT := hm.fT
  have HO : Hid (v64 [m0, m1, m2, m3, m4, m5] % 2 = 1) := hm.odd
  clear hm
  have B0 := (((Blk.new w (us [x0, x1, x2, x3, x4, x5]) 24 w.heap.size rfl).alloc (.cells (us [k0, k1, k2, k3, k4, k5]).toArray 24)).alloc (.cells (us [m0, m1, m2, m3, m4, m5, i, t0, t1, t2, t3, t4, t5]).toArray 65)).alloc (.cells (us [0, 0, 0, 0, 0, 0]).toArray 24)
  have B1 := ((Blk.new (w.alloc (.cells (us [x0, x1, x2, x3, x4, x5]).toArray 24)) (us [k0, k1, k2, k3, k4, k5]) 24 (w.heap.size + 1) (by simp)).alloc (.cells (us [m0, m1, m2, m3, m4, m5, i, t0, t1, t2, t3, t4, t5]).toArray 65)).alloc (.cells (us [0, 0, 0, 0, 0, 0]).toArray 24)
  have B2 := (Blk.new ((w.alloc (.cells (us [x0, x1, x2, x3, x4, x5]).toArray 24)).alloc (.cells (us [k0, k1, k2, k3, k4, k5]).toArray 24)) (us [m0, m1, m2, m3, m4, m5, i, t0, t1, t2, t3, t4, t5]) 65 (w.heap.size + 1 + 1) (by simp)).alloc (.cells (us [0, 0, 0, 0, 0, 0]).toArray 24)
  have B3 := Blk.new (((w.alloc (.cells (us [x0, x1, x2, x3, x4, x5]).toArray 24)).alloc (.cells (us [k0, k1, k2, k3, k4, k5]).toArray 24)).alloc (.cells (us [m0, m1, m2, m3, m4, m5, i, t0, t1, t2, t3, t4, t5]).toArray 65)) (us [0, 0, 0, 0, 0, 0]) 24 (w.heap.size + 1 + 1 + 1) (by simp)
  have bel : Below w.heap.size w ((((w.alloc (.cells (us [x0, x1, x2, x3, x4, x5]).toArray 24)).alloc (.cells (us [k0, k1, k2, k3, k4, k5]).toArray 24)).alloc (.cells (us [m0, m1, m2, m3, m4, m5, i, t0, t1, t2, t3, t4, t5]).toArray 65)).alloc (.cells (us [0, 0, 0, 0, 0, 0]).toArray 24)) := ((((Below.refl _ _).alloc (Nat.le_refl _) _).alloc (by simp) _).alloc (by simp; omega) _).alloc (by simp; omega) _
  go_enter Tryd.func36, Tryd.ntmps36
  go_upto_region 1 with fail
  simp only [us, List.map_cons, List.map_nil] at B0 B1 B2 B3 bel
  generalize (((w.alloc (Obj.cells #[.int .u64 x0, .int .u64 x1, .int .u64 x2, .int .u64 x3, .int .u64 x4, .int .u64 x5] 24)).alloc (Obj.cells #[.int .u64 k0, .int .u64 k1, .int .u64 k2, .int .u64 k3, .int .u64 k4, .int .u64 k5] 24)).alloc (Obj.cells #[.int .u64 m0, .int .u64 m1, .int .u64 m2, .int .u64 m3, .int .u64 m4, .int .u64 m5, .int .u64 i, .int .u64 t0, .int .u64 t1, .int .u64 t2, .int .u64 t3, .int .u64 t4, .int .u64 t5] 65)).alloc (Obj.cells #[.int .u64 0, .int .u64 0, .int .u64 0, .int .u64 0, .int .u64 0, .int .u64 0] 24) = W at *
  obtain ⟨c0, c1, c2, c3, c4, c5⟩ := B0.cells6
  obtain ⟨a0, a1, a2, a3, a4, a5⟩ := B2.cellsM
  obtain ⟨b0, b1, b2, b3, b4, b5, b6⟩ := B2.cellsT
  go_wp2_with fail
  refine (mulR6 fX fT HM.out).mono ?_
  rintro e w1 ⟨g0, g1, g2, g3, g4, g5, rfl, fG, hG, hE, hb⟩
  have HG : Hid _ := mont_in HO.out HM.out.two hE
  clear hG hE c0 c1 c2 c3 c4 c5 a0 a1 a2 a3 a4 a5 b0 b1 b2 b3 b4 b5 b6 B0
  have ltm := B3.lt
  replace B1 := (B1.later hb).alloc (.cells (us [g0, g1, g2, g3, g4, g5]).toArray 24)
  replace B2 := (B2.later hb).alloc (.cells (us [g0, g1, g2, g3, g4, g5]).toArray 24)
  replace B3 := (B3.later hb).alloc (.cells (us [g0, g1, g2, g3, g4, g5]).toArray 24)
  have B4 := Blk.new w1 (us [g0, g1, g2, g3, g4, g5]) 24 w1.heap.size rfl
  have lt1 := hb.size
  replace bel := below_alloc (o := .cells (us [g0, g1, g2, g3, g4, g5]).toArray 24) (below_step bel hb)
  have ltb : w.heap.size + 1 + 1 + 1 < w1.heap.size := by omega
  clear hb ltm lt1
  obtain ⟨bb, hbb⟩ : ∃ b, b = w1.heap.size := ⟨_, rfl⟩
  rw [← hbb] at B4 ltb
  go_upto_region 2 with fail
  rw [← hbb]
  simp only [us, List.map_cons, List.map_nil] at B1 B2 B3 B4 bel
  generalize w1.alloc (Obj.cells #[.int .u64 g0, .int .u64 g1, .int .u64 g2, .int .u64 g3, .int .u64 g4, .int .u64 g5] 24) = W1 at *
  clear hbb
  obtain ⟨a0, a1, a2, a3, a4, a5⟩ := B2.cellsM
  obtain ⟨b0, b1, b2, b3, b4, b5, b6⟩ := B2.cellsT
  go_wp2_with fail
  refine (mulR6 fits_one fT HM.out).mono ?_
  rintro e w2 ⟨p0, p1, p2, p3, p4, p5, rfl, fP, hP, hE, hb⟩
  have HP : Hid _ := mont_in HO.out HM.out.two hE
  clear hP hE a0 a1 a2 a3 a4 a5 b0 b1 b2 b3 b4 b5 b6
  have ltm := B4.lt
  replace B1 := (B1.later hb).alloc (.cells (us [p0, p1, p2, p3, p4, p5]).toArray 24)
  replace B2 := (B2.later hb).alloc (.cells (us [p0, p1, p2, p3, p4, p5]).toArray 24)
  replace B3 := (B3.later hb).alloc (.cells (us [p0, p1, p2, p3, p4, p5]).toArray 24)
  replace B4 := (B4.later hb).alloc (.cells (us [p0, p1, p2, p3, p4, p5]).toArray 24)
  have B5 := Blk.new w2 (us [p0, p1, p2, p3, p4, p5]) 24 w2.heap.size rfl
  have lt1 := hb.size
  replace bel := below_alloc (o := .cells (us [p0, p1, p2, p3, p4, p5]).toArray 24) (below_step bel hb)
  have ltp : bb < w2.heap.size := by omega
  clear hb ltm lt1
  obtain ⟨bp, hbp⟩ : ∃ b, b = w2.heap.size := ⟨_, rfl⟩
  rw [← hbp] at B5 ltp
  go_upto_region 3 with fail
  rw [← hbp]
  simp only [us, List.map_cons, List.map_nil] at B1 B2 B3 B4 B5 bel
  generalize w2.alloc (Obj.cells #[.int .u64 p0, .int .u64 p1, .int .u64 p2, .int .u64 p3, .int .u64 p4, .int .u64 p5] 24) = W2 at *
  clear hbp
  obtain ⟨S1, hS1, KL1, KA1, KD1, KS1, KP1, KN1, KB1, KM1, KW1⟩ := held_mk (w0 := w) (W := W2) [(w.heap.size + 1, [k0, k1, k2, k3, k4, k5]), (w.heap.size + 1 + 1, [m0, m1, m2, m3, m4, m5, i, t0, t1, t2, t3, t4, t5]), (bb, [g0, g1, g2, g3, g4, g5])] [w.heap.size + 1 + 1 + 1, bp] (by
    intro b X h
    simp only [List.mem_cons, List.not_mem_nil, or_false, Prod.mk.injEq] at h
    rcases h with ⟨rfl, rfl⟩ | ⟨rfl, rfl⟩ | ⟨rfl, rfl⟩
    · exact B1
    · exact B2
    · exact B4) (by
    intro b h
    simp only [List.mem_cons, List.not_mem_nil, or_false] at h
    rcases h with rfl | rfl
    · exact Wr6.of B3
    · exact Wr6.of B5) (by
    intro b X h
    simp only [List.mem_cons, List.not_mem_nil, or_false, Prod.mk.injEq] at h ⊢
    omega) bel
  obtain ⟨c1a0, c1a1, c1a2, c1a3, c1a4, c1a5, c1a6⟩ := rule6 (S := Hd S1) (b := w.heap.size + 1) (x0 := k0) (x1 := k1) (x2 := k2) (x3 := k3) (x4 := k4) (x5 := k5) (fun wx h => KM1.out wx _ _ h (by simp))
  obtain ⟨c1b0, c1b1, c1b2, c1b3, c1b4, c1b5, c1b6, c1b7, c1b8, c1b9, c1b10, c1b11, c1b12, c1b13⟩ := rule13 (S := Hd S1) (b := w.heap.size + 1 + 1) (m0 := m0) (m1 := m1) (m2 := m2) (m3 := m3) (m4 := m4) (m5 := m5) (i := i) (t0 := t0) (t1 := t1) (t2 := t2) (t3 := t3) (t4 := t4) (t5 := t5) (fun wx h => KM1.out wx _ _ h (by simp))
  obtain ⟨c1c0, c1c1, c1c2, c1c3, c1c4, c1c5, c1c6⟩ := rule6 (S := Hd S1) (b := bb) (x0 := g0) (x1 := g1) (x2 := g2) (x3 := g3) (x4 := g4) (x5 := g5) (fun wx h => KM1.out wx _ _ h (by simp))
  obtain ⟨⟨d1a0, d1a1, d1a2, d1a3, d1a4, d1a5⟩, ⟨d1af0, d1af1, d1af2, d1af3, d1af4, d1af5⟩, d1alt⟩ := ruleW (S := Hd S1) (b := w.heap.size + 1 + 1 + 1) (fun wx h => KW1.out wx _ h (by simp))
  obtain ⟨-, ⟨d1bf0, d1bf1, d1bf2, d1bf3, d1bf4, d1bf5⟩, d1blt⟩ := ruleW (S := Hd S1) (b := bp) (fun wx h => KW1.out wx _ h (by simp))
  have HP0 : Hid (v64 [p0, p1, p2, p3, p4, p5] % v64 [m0, m1, m2, m3, m4, m5] = ((v64 [x0, x1, x2, x3, x4, x5]) ^ ((v64 [k0, k1, k2, k3, k4, k5]).toNat / 2 ^ (384 - 0)) * 18446744073709551616 ^ 6) % v64 [m0, m1, m2, m3, m4, m5]) := by
    show _ = _
    rw [pow_none _ [k0, k1, k2, k3, k4, k5] rfl fK (384 - 0) rfl, HP.out, one_v]
  clear B1 B2 B3 B4 HP bel
  go_wp2_with fail
  go_loopw [20] (fun iv wr => ∃ (n : Nat) (p0 p1 p2 p3 p4 p5 : Int), n ≤ 384 ∧ iv = .int .i64 n ∧ fits [p0, p1, p2, p3, p4, p5] ∧ Hid (v64 [p0, p1, p2, p3, p4, p5] % v64 [m0, m1, m2, m3, m4, m5] = ((v64 [x0, x1, x2, x3, x4, x5]) ^ ((v64 [k0, k1, k2, k3, k4, k5]).toNat / 2 ^ (384 - n)) * 18446744073709551616 ^ 6) % v64 [m0, m1, m2, m3, m4, m5]) ∧ Blk wr bp (us [p0, p1, p2, p3, p4, p5]) ∧ Hd S1 wr)
    (fun iv _ => 384 - (intOf iv).toNat)
  case atStart => exact ⟨0, p0, p1, p2, p3, p4, p5, by omega, rfl, fP, HP0, B5, hS1⟩
  case round =>
    clear B5 hS1 HP0 fP
    obtain ⟨n, p0, p1, p2, p3, p4, p5, hn, rfl, fP, HP, BP, hS1⟩ := hrel
    by_cases hlt : n < 384
    · have g1 : (n : Int) < 384 := by omega
      obtain ⟨j, hj⟩ : ∃ j : Nat, 384 - n = j + 1 := ⟨383 - n, by omega⟩
      have gj : (383 : Int) - (n : Int) = (j : Int) := by omega
      have gw : IntKind.i64.wrap (j : Int) = (j : Int) := by rw [IntKind.wrap_i64]; omega
      have hj2 : j < 384 := by omega
      have ej : 384 - (n + 1) = j := by omega
      rw [hj] at HP
      have HJ : Hid _ := ej
      clear ej hj
      obtain ⟨c0, c1, c2, c3, c4, c5⟩ := BP.cells6
      go_upto_region 6 with fail
      go_cut [] (fun wx => ∃ (q0 q1 q2 q3 q4 q5 : Int), fits [q0, q1, q2, q3, q4, q5] ∧ Hid (v64 [q0, q1, q2, q3, q4, q5] % v64 [m0, m1, m2, m3, m4, m5] = ((v64 [x0, x1, x2, x3, x4, x5]) ^ ((v64 [k0, k1, k2, k3, k4, k5]).toNat / 2 ^ (j + 1)) * (v64 [x0, x1, x2, x3, x4, x5]) ^ ((v64 [k0, k1, k2, k3, k4, k5]).toNat / 2 ^ (j + 1)) * 18446744073709551616 ^ 6) % v64 [m0, m1, m2, m3, m4, m5]) ∧ Blk wx bp (us [q0, q1, q2, q3, q4, q5]) ∧ Hd S1 wx)
      case first =>
        go_wp2_with fail
        refine (mulR6 fP fP HM.out).mono ?_
        rintro e w3 ⟨q0, q1, q2, q3, q4, q5, rfl, fQ, hQ, hE, hb⟩
        have HQ : Hid _ := mont_step HO.out HP.out HP.out hE
        have BP2 := BP.later hb
        have hc := KL1.out _ _ hS1 hb
        clear hQ hE hb c0 c1 c2 c3 c4 c5 hS1
        obtain ⟨c0, c1, c2, c3, c4, c5⟩ := BP2.cells6
        go_wp2_with fail
        go_meet
        exact ⟨q0, q1, q2, q3, q4, q5, fQ, HQ, blk_put6 BP2, KP1.out _ _ _ _ _ _ _ _ hc (by right; simp) (by omega)⟩
      case rest =>
        clear BP c0 c1 c2 c3 c4 c5 fP HP hS1
        obtain ⟨q0, q1, q2, q3, q4, q5, fQ, HQ, BQ, hS1⟩ := hcut
        obtain ⟨c0, c1, c2, c3, c4, c5⟩ := BQ.cells6
        have NB : Hid _ := bitN_nat [k0, k1, k2, k3, k4, k5] j rfl fK hj2
        go_upto_region 7 with fail
        refine wp_region_noPanic ?_
        refine wp_region_held_drew (S := Hd S1) (by kernel_rfl) (KD1.out _ hS1) (fun hHeld => ?_)
        clear hS1
        replace BQ := BQ.drew
        refine wpAnyH_take (i := 1) (v := ?_) rfl (by kernel_rfl) (by kernel_rfl) (by kernel_rfl) (fun _ _ _ h => h) (Or.inl ⟨by rfl, ?_⟩) (by assumption) ?_
        rotate_left
        · intro w hSw
          go_simp
          with_reducible rfl
        try simp only [Act.put, List.setIfInBounds_toArray, List.set_cons_zero, List.set_cons_succ]
        refine wpAnyH_take (i := 2) (v := ?_) rfl (by kernel_rfl) (by kernel_rfl) (by kernel_rfl) (fun _ _ _ h => h) (Or.inl ⟨by rfl, ?_⟩) (by assumption) ?_
        rotate_left
        · intro w hSw
          go_simp
          with_reducible rfl
        try simp only [Act.put, List.setIfInBounds_toArray, List.set_cons_zero, List.set_cons_succ]
        refine wpAnyH_take (i := 0) (v := ?_) rfl (by kernel_rfl) (by kernel_rfl) (by kernel_rfl) (fun _ _ _ h => h) (Or.inl ⟨by rfl, ?_⟩) (by assumption) ?_
        rotate_left
        · intro w hSw
          go_simp
          with_reducible rfl
        try simp only [Act.put, List.setIfInBounds_toArray, List.set_cons_zero, List.set_cons_succ]
        refine wpAnyH_take (i := 6) (v := ?_) rfl (by kernel_rfl) (by kernel_rfl) (by kernel_rfl) (fun _ _ _ h => h) (Or.inl ⟨by rfl, ?_⟩) (by assumption) ?_
        rotate_left
        · intro w hSw
          go_simp
          with_reducible rfl
        try simp only [Act.put, List.setIfInBounds_toArray, List.set_cons_zero, List.set_cons_succ]
        refine wpAnyH_take (i := 7) (v := ?_) rfl (by kernel_rfl) (by kernel_rfl) (by kernel_rfl) (fun _ _ _ h => h) (Or.inl ⟨by rfl, ?_⟩) (by assumption) ?_
        rotate_left
        · intro w hSw
          go_simp
          with_reducible rfl
        try simp only [Act.put, List.setIfInBounds_toArray, List.set_cons_zero, List.set_cons_succ]
        refine wpAnyH_ready (rs := [3, 4, 5]) (by kernel_rfl) (by simp) ?_
        refine AllReadyH.cons rfl (fun K hK => ?_) ?_
        · go_simp
          go_fit (bit6 fK)
          rintro e w' ⟨rfl, hb⟩
          replace BQ := (BQ.later hb)
          clear c0 c1 c2 c3 c4 c5
          obtain ⟨c0, c1, c2, c3, c4, c5⟩ := BQ.cells6
          try simp only []
          refine hK.out _ _ ?_ (fun hHeld2 => ?_)
          · exact KL1.out _ _ hHeld hb
          · clear hK K hHeld hb
            have hHeld := hHeld2
            clear hHeld2
            try simp only [Act.put, List.setIfInBounds_toArray, List.set_cons_zero, List.set_cons_succ]
            refine wpAnyH_ready (rs := [4, 5]) (by kernel_rfl) (by simp) ?_
            refine AllReadyH.cons rfl (fun K hK => ?_) ?_
            · go_simp
              refine hK.out _ _ ?_ (fun hHeld2 => ?_)
              · exact hHeld
              · clear hK K hHeld
                have hHeld := hHeld2
                clear hHeld2
                try simp only [Act.put, List.setIfInBounds_toArray, List.set_cons_zero, List.set_cons_succ]
                refine wpAnyH_ready (rs := [5]) (by kernel_rfl) (by simp) ?_
                refine AllReadyH.cons rfl (fun K hK => ?_) ?_
                · go_simp
                  refine hK.out _ _ ?_ (fun hHeld2 => ?_)
                  · exact hHeld
                  · clear hK K hHeld
                    have hHeld := hHeld2
                    clear hHeld2
                    try simp only [Act.put, List.setIfInBounds_toArray, List.set_cons_zero, List.set_cons_succ]
                    refine wpAnyH_ready (rs := [8]) (by kernel_rfl) (by simp) ?_
                    refine AllReadyH.cons rfl (fun K hK => ?_) ?_
                    · go_simp
                      go_fit (mulR6 fQ fG HM.out)
                      rintro e w' ⟨u0, u1, u2, u3, u4, u5, rfl, fU, hU, hE, hb⟩
                      have HU : Hid _ := mont_step HO.out HQ.out HG.out hE
                      clear hU hE
                      replace BQ := (BQ.later hb)
                      clear c0 c1 c2 c3 c4 c5
                      obtain ⟨c0, c1, c2, c3, c4, c5⟩ := BQ.cells6
                      try simp only []
                      refine hK.out _ _ ?_ (fun hHeld2 => ?_)
                      · exact KL1.out _ _ hHeld hb
                      · clear hK K hHeld hb
                        have hHeld := hHeld2
                        clear hHeld2
                        try simp only [Act.put, List.setIfInBounds_toArray, List.set_cons_zero, List.set_cons_succ]
                        refine wpAnyH_ready (rs := [9]) (by kernel_rfl) (by simp) ?_
                        refine AllReadyH.cons rfl (fun K hK => ?_) ?_
                        · go_simp
                          go_fit (pick6 (bit_bd [k0, k1, k2, k3, k4, k5] j NB.out) fQ fU)
                          rintro e w' ⟨z0, z1, z2, z3, z4, z5, rfl, hp, fZ, hb⟩
                          have HZ : Hid _ := exp_round NB.out HQ.out HU.out (pk_num hp)
                          clear hp
                          replace BQ := (BQ.later hb)
                          clear c0 c1 c2 c3 c4 c5
                          obtain ⟨c0, c1, c2, c3, c4, c5⟩ := BQ.cells6
                          try simp only []
                          refine hK.out _ _ ?_ (fun hHeld2 => ?_)
                          · exact KL1.out _ _ hHeld hb
                          · clear hK K hHeld hb
                            have hHeld := hHeld2
                            clear hHeld2
                            try simp only [Act.put, List.setIfInBounds_toArray, List.set_cons_zero, List.set_cons_succ]
                            refine wpAnyH_ready (rs := [10]) (by kernel_rfl) (by simp) ?_
                            refine AllReadyH.cons rfl (fun K hK => ?_) ?_
                            · go_simp
                              refine hK.out _ _ ?_ (fun hHeld2 => ?_)
                              · exact KP1.out _ _ _ _ _ _ _ _ hHeld (by right; simp) (by omega)
                              · clear hK K hHeld
                                have hHeld := hHeld2
                                clear hHeld2
                                try simp only [Act.put, List.setIfInBounds_toArray, List.set_cons_zero, List.set_cons_succ]
                                refine wpAnyH_done (by kernel_rfl) ?_ _
                                refine NoPanic.normal ?_
                                go_wp2_with fail
                                go_roundw
                                case rel => exact ⟨n + 1, z0, z1, z2, z3, z4, z5, by omega, by go_num, fZ, by rw [HJ.out]; exact HZ, blk_put6 BQ, hHeld⟩
                                case measure => simp [intOf]; omega
                            exact AllReadyH.nil
                        exact AllReadyH.nil
                    exact AllReadyH.nil
                exact AllReadyH.nil
            refine AllReadyH.cons rfl (fun K hK => ?_) ?_
            · go_simp
              refine hK.out _ _ ?_ (fun hHeld2 => ?_)
              · exact hHeld
              · clear hK K hHeld
                have hHeld := hHeld2
                clear hHeld2
                try simp only [Act.put, List.setIfInBounds_toArray, List.set_cons_zero, List.set_cons_succ]
                refine wpAnyH_ready (rs := [4, 8]) (by kernel_rfl) (by simp) ?_
                refine AllReadyH.cons rfl (fun K hK => ?_) ?_
                · go_simp
                  refine hK.out _ _ ?_ (fun hHeld2 => ?_)
                  · exact hHeld
                  · clear hK K hHeld
                    have hHeld := hHeld2
                    clear hHeld2
                    try simp only [Act.put, List.setIfInBounds_toArray, List.set_cons_zero, List.set_cons_succ]
                    refine wpAnyH_ready (rs := [8]) (by kernel_rfl) (by simp) ?_
                    refine AllReadyH.cons rfl (fun K hK => ?_) ?_
                    · go_simp
                      go_fit (mulR6 fQ fG HM.out)
                      rintro e w' ⟨u0, u1, u2, u3, u4, u5, rfl, fU, hU, hE, hb⟩
                      have HU : Hid _ := mont_step HO.out HQ.out HG.out hE
                      clear hU hE
                      replace BQ := (BQ.later hb)
                      clear c0 c1 c2 c3 c4 c5
                      obtain ⟨c0, c1, c2, c3, c4, c5⟩ := BQ.cells6
                      try simp only []
                      refine hK.out _ _ ?_ (fun hHeld2 => ?_)
                      · exact KL1.out _ _ hHeld hb
                      · clear hK K hHeld hb
                        have hHeld := hHeld2
                        clear hHeld2
                        try simp only [Act.put, List.setIfInBounds_toArray, List.set_cons_zero, List.set_cons_succ]
                        refine wpAnyH_ready (rs := [9]) (by kernel_rfl) (by simp) ?_
                        refine AllReadyH.cons rfl (fun K hK => ?_) ?_
                        · go_simp
                          go_fit (pick6 (bit_bd [k0, k1, k2, k3, k4, k5] j NB.out) fQ fU)
                          rintro e w' ⟨z0, z1, z2, z3, z4, z5, rfl, hp, fZ, hb⟩
                          have HZ : Hid _ := exp_round NB.out HQ.out HU.out (pk_num hp)
                          clear hp
                          replace BQ := (BQ.later hb)
                          clear c0 c1 c2 c3 c4 c5
                          obtain ⟨c0, c1, c2, c3, c4, c5⟩ := BQ.cells6
                          try simp only []
                          refine hK.out _ _ ?_ (fun hHeld2 => ?_)
                          · exact KL1.out _ _ hHeld hb
                          · clear hK K hHeld hb
                            have hHeld := hHeld2
                            clear hHeld2
                            try simp only [Act.put, List.setIfInBounds_toArray, List.set_cons_zero, List.set_cons_succ]
                            refine wpAnyH_ready (rs := [10]) (by kernel_rfl) (by simp) ?_
                            refine AllReadyH.cons rfl (fun K hK => ?_) ?_
                            · go_simp
                              refine hK.out _ _ ?_ (fun hHeld2 => ?_)
                              · exact KP1.out _ _ _ _ _ _ _ _ hHeld (by right; simp) (by omega)
                              · clear hK K hHeld
                                have hHeld := hHeld2
                                clear hHeld2
                                try simp only [Act.put, List.setIfInBounds_toArray, List.set_cons_zero, List.set_cons_succ]
                                refine wpAnyH_done (by kernel_rfl) ?_ _
                                refine NoPanic.normal ?_
                                go_wp2_with fail
                                go_roundw
                                case rel => exact ⟨n + 1, z0, z1, z2, z3, z4, z5, by omega, by go_num, fZ, by rw [HJ.out]; exact HZ, blk_put6 BQ, hHeld⟩
                                case measure => simp [intOf]; omega
                            exact AllReadyH.nil
                        exact AllReadyH.nil
                    exact AllReadyH.nil
                refine AllReadyH.cons rfl (fun K hK => ?_) ?_
                · go_simp
                  go_fit (mulR6 fQ fG HM.out)
                  rintro e w' ⟨u0, u1, u2, u3, u4, u5, rfl, fU, hU, hE, hb⟩
                  have HU : Hid _ := mont_step HO.out HQ.out HG.out hE
                  clear hU hE
                  replace BQ := (BQ.later hb)
                  clear c0 c1 c2 c3 c4 c5
                  obtain ⟨c0, c1, c2, c3, c4, c5⟩ := BQ.cells6
                  try simp only []
                  refine hK.out _ _ ?_ (fun hHeld2 => ?_)
                  · exact KL1.out _ _ hHeld hb
                  · clear hK K hHeld hb
                    have hHeld := hHeld2
                    clear hHeld2
                    try simp only [Act.put, List.setIfInBounds_toArray, List.set_cons_zero, List.set_cons_succ]
                    refine wpAnyH_ready (rs := [4]) (by kernel_rfl) (by simp) ?_
                    refine AllReadyH.cons rfl (fun K hK => ?_) ?_
                    · go_simp
                      refine hK.out _ _ ?_ (fun hHeld2 => ?_)
                      · exact hHeld
                      · clear hK K hHeld
                        have hHeld := hHeld2
                        clear hHeld2
                        try simp only [Act.put, List.setIfInBounds_toArray, List.set_cons_zero, List.set_cons_succ]
                        refine wpAnyH_ready (rs := [9]) (by kernel_rfl) (by simp) ?_
                        refine AllReadyH.cons rfl (fun K hK => ?_) ?_
                        · go_simp
                          go_fit (pick6 (bit_bd [k0, k1, k2, k3, k4, k5] j NB.out) fQ fU)
                          rintro e w' ⟨z0, z1, z2, z3, z4, z5, rfl, hp, fZ, hb⟩
                          have HZ : Hid _ := exp_round NB.out HQ.out HU.out (pk_num hp)
                          clear hp
                          replace BQ := (BQ.later hb)
                          clear c0 c1 c2 c3 c4 c5
                          obtain ⟨c0, c1, c2, c3, c4, c5⟩ := BQ.cells6
                          try simp only []
                          refine hK.out _ _ ?_ (fun hHeld2 => ?_)
                          · exact KL1.out _ _ hHeld hb
                          · clear hK K hHeld hb
                            have hHeld := hHeld2
                            clear hHeld2
                            try simp only [Act.put, List.setIfInBounds_toArray, List.set_cons_zero, List.set_cons_succ]
                            refine wpAnyH_ready (rs := [10]) (by kernel_rfl) (by simp) ?_
                            refine AllReadyH.cons rfl (fun K hK => ?_) ?_
                            · go_simp
                              refine hK.out _ _ ?_ (fun hHeld2 => ?_)
                              · exact KP1.out _ _ _ _ _ _ _ _ hHeld (by right; simp) (by omega)
                              · clear hK K hHeld
                                have hHeld := hHeld2
                                clear hHeld2
                                try simp only [Act.put, List.setIfInBounds_toArray, List.set_cons_zero, List.set_cons_succ]
                                refine wpAnyH_done (by kernel_rfl) ?_ _
                                refine NoPanic.normal ?_
                                go_wp2_with fail
                                go_roundw
                                case rel => exact ⟨n + 1, z0, z1, z2, z3, z4, z5, by omega, by go_num, fZ, by rw [HJ.out]; exact HZ, blk_put6 BQ, hHeld⟩
                                case measure => simp [intOf]; omega
                            exact AllReadyH.nil
                        exact AllReadyH.nil
                    exact AllReadyH.nil
                exact AllReadyH.nil
            exact AllReadyH.nil
        refine AllReadyH.cons rfl (fun K hK => ?_) ?_
        · go_simp
          refine hK.out _ _ ?_ (fun hHeld2 => ?_)
          · exact hHeld
          · clear hK K hHeld
            have hHeld := hHeld2
            clear hHeld2
            try simp only [Act.put, List.setIfInBounds_toArray, List.set_cons_zero, List.set_cons_succ]
            refine wpAnyH_ready (rs := [3, 5]) (by kernel_rfl) (by simp) ?_
            refine AllReadyH.cons rfl (fun K hK => ?_) ?_
            · go_simp
              go_fit (bit6 fK)
              rintro e w' ⟨rfl, hb⟩
              replace BQ := (BQ.later hb)
              clear c0 c1 c2 c3 c4 c5
              obtain ⟨c0, c1, c2, c3, c4, c5⟩ := BQ.cells6
              try simp only []
              refine hK.out _ _ ?_ (fun hHeld2 => ?_)
              · exact KL1.out _ _ hHeld hb
              · clear hK K hHeld hb
                have hHeld := hHeld2
                clear hHeld2
                try simp only [Act.put, List.setIfInBounds_toArray, List.set_cons_zero, List.set_cons_succ]
                refine wpAnyH_ready (rs := [5]) (by kernel_rfl) (by simp) ?_
                refine AllReadyH.cons rfl (fun K hK => ?_) ?_
                · go_simp
                  refine hK.out _ _ ?_ (fun hHeld2 => ?_)
                  · exact hHeld
                  · clear hK K hHeld
                    have hHeld := hHeld2
                    clear hHeld2
                    try simp only [Act.put, List.setIfInBounds_toArray, List.set_cons_zero, List.set_cons_succ]
                    refine wpAnyH_ready (rs := [8]) (by kernel_rfl) (by simp) ?_
                    refine AllReadyH.cons rfl (fun K hK => ?_) ?_
                    · go_simp
                      go_fit (mulR6 fQ fG HM.out)
                      rintro e w' ⟨u0, u1, u2, u3, u4, u5, rfl, fU, hU, hE, hb⟩
                      have HU : Hid _ := mont_step HO.out HQ.out HG.out hE
                      clear hU hE
                      replace BQ := (BQ.later hb)
                      clear c0 c1 c2 c3 c4 c5
                      obtain ⟨c0, c1, c2, c3, c4, c5⟩ := BQ.cells6
                      try simp only []
                      refine hK.out _ _ ?_ (fun hHeld2 => ?_)
                      · exact KL1.out _ _ hHeld hb
                      · clear hK K hHeld hb
                        have hHeld := hHeld2
                        clear hHeld2
                        try simp only [Act.put, List.setIfInBounds_toArray, List.set_cons_zero, List.set_cons_succ]
                        refine wpAnyH_ready (rs := [9]) (by kernel_rfl) (by simp) ?_
                        refine AllReadyH.cons rfl (fun K hK => ?_) ?_
                        · go_simp
                          go_fit (pick6 (bit_bd [k0, k1, k2, k3, k4, k5] j NB.out) fQ fU)
                          rintro e w' ⟨z0, z1, z2, z3, z4, z5, rfl, hp, fZ, hb⟩
                          have HZ : Hid _ := exp_round NB.out HQ.out HU.out (pk_num hp)
                          clear hp
                          replace BQ := (BQ.later hb)
                          clear c0 c1 c2 c3 c4 c5
                          obtain ⟨c0, c1, c2, c3, c4, c5⟩ := BQ.cells6
                          try simp only []
                          refine hK.out _ _ ?_ (fun hHeld2 => ?_)
                          · exact KL1.out _ _ hHeld hb
                          · clear hK K hHeld hb
                            have hHeld := hHeld2
                            clear hHeld2
                            try simp only [Act.put, List.setIfInBounds_toArray, List.set_cons_zero, List.set_cons_succ]
                            refine wpAnyH_ready (rs := [10]) (by kernel_rfl) (by simp) ?_
                            refine AllReadyH.cons rfl (fun K hK => ?_) ?_
                            · go_simp
                              refine hK.out _ _ ?_ (fun hHeld2 => ?_)
                              · exact KP1.out _ _ _ _ _ _ _ _ hHeld (by right; simp) (by omega)
                              · clear hK K hHeld
                                have hHeld := hHeld2
                                clear hHeld2
                                try simp only [Act.put, List.setIfInBounds_toArray, List.set_cons_zero, List.set_cons_succ]
                                refine wpAnyH_done (by kernel_rfl) ?_ _
                                refine NoPanic.normal ?_
                                go_wp2_with fail
                                go_roundw
                                case rel => exact ⟨n + 1, z0, z1, z2, z3, z4, z5, by omega, by go_num, fZ, by rw [HJ.out]; exact HZ, blk_put6 BQ, hHeld⟩
                                case measure => simp [intOf]; omega
                            exact AllReadyH.nil
                        exact AllReadyH.nil
                    exact AllReadyH.nil
                exact AllReadyH.nil
            refine AllReadyH.cons rfl (fun K hK => ?_) ?_
            · go_simp
              refine hK.out _ _ ?_ (fun hHeld2 => ?_)
              · exact hHeld
              · clear hK K hHeld
                have hHeld := hHeld2
                clear hHeld2
                try simp only [Act.put, List.setIfInBounds_toArray, List.set_cons_zero, List.set_cons_succ]
                refine wpAnyH_ready (rs := [3]) (by kernel_rfl) (by simp) ?_
                refine AllReadyH.cons rfl (fun K hK => ?_) ?_
                · go_simp
                  go_fit (bit6 fK)
                  rintro e w' ⟨rfl, hb⟩
                  replace BQ := (BQ.later hb)
                  clear c0 c1 c2 c3 c4 c5
                  obtain ⟨c0, c1, c2, c3, c4, c5⟩ := BQ.cells6
                  try simp only []
                  refine hK.out _ _ ?_ (fun hHeld2 => ?_)
                  · exact KL1.out _ _ hHeld hb
                  · clear hK K hHeld hb
                    have hHeld := hHeld2
                    clear hHeld2
                    try simp only [Act.put, List.setIfInBounds_toArray, List.set_cons_zero, List.set_cons_succ]
                    refine wpAnyH_ready (rs := [8]) (by kernel_rfl) (by simp) ?_
                    refine AllReadyH.cons rfl (fun K hK => ?_) ?_
                    · go_simp
                      go_fit (mulR6 fQ fG HM.out)
                      rintro e w' ⟨u0, u1, u2, u3, u4, u5, rfl, fU, hU, hE, hb⟩
                      have HU : Hid _ := mont_step HO.out HQ.out HG.out hE
                      clear hU hE
                      replace BQ := (BQ.later hb)
                      clear c0 c1 c2 c3 c4 c5
                      obtain ⟨c0, c1, c2, c3, c4, c5⟩ := BQ.cells6
                      try simp only []
                      refine hK.out _ _ ?_ (fun hHeld2 => ?_)
                      · exact KL1.out _ _ hHeld hb
                      · clear hK K hHeld hb
                        have hHeld := hHeld2
                        clear hHeld2
                        try simp only [Act.put, List.setIfInBounds_toArray, List.set_cons_zero, List.set_cons_succ]
                        refine wpAnyH_ready (rs := [9]) (by kernel_rfl) (by simp) ?_
                        refine AllReadyH.cons rfl (fun K hK => ?_) ?_
                        · go_simp
                          go_fit (pick6 (bit_bd [k0, k1, k2, k3, k4, k5] j NB.out) fQ fU)
                          rintro e w' ⟨z0, z1, z2, z3, z4, z5, rfl, hp, fZ, hb⟩
                          have HZ : Hid _ := exp_round NB.out HQ.out HU.out (pk_num hp)
                          clear hp
                          replace BQ := (BQ.later hb)
                          clear c0 c1 c2 c3 c4 c5
                          obtain ⟨c0, c1, c2, c3, c4, c5⟩ := BQ.cells6
                          try simp only []
                          refine hK.out _ _ ?_ (fun hHeld2 => ?_)
                          · exact KL1.out _ _ hHeld hb
                          · clear hK K hHeld hb
                            have hHeld := hHeld2
                            clear hHeld2
                            try simp only [Act.put, List.setIfInBounds_toArray, List.set_cons_zero, List.set_cons_succ]
                            refine wpAnyH_ready (rs := [10]) (by kernel_rfl) (by simp) ?_
                            refine AllReadyH.cons rfl (fun K hK => ?_) ?_
                            · go_simp
                              refine hK.out _ _ ?_ (fun hHeld2 => ?_)
                              · exact KP1.out _ _ _ _ _ _ _ _ hHeld (by right; simp) (by omega)
                              · clear hK K hHeld
                                have hHeld := hHeld2
                                clear hHeld2
                                try simp only [Act.put, List.setIfInBounds_toArray, List.set_cons_zero, List.set_cons_succ]
                                refine wpAnyH_done (by kernel_rfl) ?_ _
                                refine NoPanic.normal ?_
                                go_wp2_with fail
                                go_roundw
                                case rel => exact ⟨n + 1, z0, z1, z2, z3, z4, z5, by omega, by go_num, fZ, by rw [HJ.out]; exact HZ, blk_put6 BQ, hHeld⟩
                                case measure => simp [intOf]; omega
                            exact AllReadyH.nil
                        exact AllReadyH.nil
                    exact AllReadyH.nil
                exact AllReadyH.nil
            exact AllReadyH.nil
        refine AllReadyH.cons rfl (fun K hK => ?_) ?_
        · go_simp
          refine hK.out _ _ ?_ (fun hHeld2 => ?_)
          · exact hHeld
          · clear hK K hHeld
            have hHeld := hHeld2
            clear hHeld2
            try simp only [Act.put, List.setIfInBounds_toArray, List.set_cons_zero, List.set_cons_succ]
            refine wpAnyH_ready (rs := [3, 4]) (by kernel_rfl) (by simp) ?_
            refine AllReadyH.cons rfl (fun K hK => ?_) ?_
            · go_simp
              go_fit (bit6 fK)
              rintro e w' ⟨rfl, hb⟩
              replace BQ := (BQ.later hb)
              clear c0 c1 c2 c3 c4 c5
              obtain ⟨c0, c1, c2, c3, c4, c5⟩ := BQ.cells6
              try simp only []
              refine hK.out _ _ ?_ (fun hHeld2 => ?_)
              · exact KL1.out _ _ hHeld hb
              · clear hK K hHeld hb
                have hHeld := hHeld2
                clear hHeld2
                try simp only [Act.put, List.setIfInBounds_toArray, List.set_cons_zero, List.set_cons_succ]
                refine wpAnyH_ready (rs := [4, 8]) (by kernel_rfl) (by simp) ?_
                refine AllReadyH.cons rfl (fun K hK => ?_) ?_
                · go_simp
                  refine hK.out _ _ ?_ (fun hHeld2 => ?_)
                  · exact hHeld
                  · clear hK K hHeld
                    have hHeld := hHeld2
                    clear hHeld2
                    try simp only [Act.put, List.setIfInBounds_toArray, List.set_cons_zero, List.set_cons_succ]
                    refine wpAnyH_ready (rs := [8]) (by kernel_rfl) (by simp) ?_
                    refine AllReadyH.cons rfl (fun K hK => ?_) ?_
                    · go_simp
                      go_fit (mulR6 fQ fG HM.out)
                      rintro e w' ⟨u0, u1, u2, u3, u4, u5, rfl, fU, hU, hE, hb⟩
                      have HU : Hid _ := mont_step HO.out HQ.out HG.out hE
                      clear hU hE
                      replace BQ := (BQ.later hb)
                      clear c0 c1 c2 c3 c4 c5
                      obtain ⟨c0, c1, c2, c3, c4, c5⟩ := BQ.cells6
                      try simp only []
                      refine hK.out _ _ ?_ (fun hHeld2 => ?_)
                      · exact KL1.out _ _ hHeld hb
                      · clear hK K hHeld hb
                        have hHeld := hHeld2
                        clear hHeld2
                        try simp only [Act.put, List.setIfInBounds_toArray, List.set_cons_zero, List.set_cons_succ]
                        refine wpAnyH_ready (rs := [9]) (by kernel_rfl) (by simp) ?_
                        refine AllReadyH.cons rfl (fun K hK => ?_) ?_
                        · go_simp
                          go_fit (pick6 (bit_bd [k0, k1, k2, k3, k4, k5] j NB.out) fQ fU)
                          rintro e w' ⟨z0, z1, z2, z3, z4, z5, rfl, hp, fZ, hb⟩
                          have HZ : Hid _ := exp_round NB.out HQ.out HU.out (pk_num hp)
                          clear hp
                          replace BQ := (BQ.later hb)
                          clear c0 c1 c2 c3 c4 c5
                          obtain ⟨c0, c1, c2, c3, c4, c5⟩ := BQ.cells6
                          try simp only []
                          refine hK.out _ _ ?_ (fun hHeld2 => ?_)
                          · exact KL1.out _ _ hHeld hb
                          · clear hK K hHeld hb
                            have hHeld := hHeld2
                            clear hHeld2
                            try simp only [Act.put, List.setIfInBounds_toArray, List.set_cons_zero, List.set_cons_succ]
                            refine wpAnyH_ready (rs := [10]) (by kernel_rfl) (by simp) ?_
                            refine AllReadyH.cons rfl (fun K hK => ?_) ?_
                            · go_simp
                              refine hK.out _ _ ?_ (fun hHeld2 => ?_)
                              · exact KP1.out _ _ _ _ _ _ _ _ hHeld (by right; simp) (by omega)
                              · clear hK K hHeld
                                have hHeld := hHeld2
                                clear hHeld2
                                try simp only [Act.put, List.setIfInBounds_toArray, List.set_cons_zero, List.set_cons_succ]
                                refine wpAnyH_done (by kernel_rfl) ?_ _
                                refine NoPanic.normal ?_
                                go_wp2_with fail
                                go_roundw
                                case rel => exact ⟨n + 1, z0, z1, z2, z3, z4, z5, by omega, by go_num, fZ, by rw [HJ.out]; exact HZ, blk_put6 BQ, hHeld⟩
                                case measure => simp [intOf]; omega
                            exact AllReadyH.nil
                        exact AllReadyH.nil
                    exact AllReadyH.nil
                refine AllReadyH.cons rfl (fun K hK => ?_) ?_
                · go_simp
                  go_fit (mulR6 fQ fG HM.out)
                  rintro e w' ⟨u0, u1, u2, u3, u4, u5, rfl, fU, hU, hE, hb⟩
                  have HU : Hid _ := mont_step HO.out HQ.out HG.out hE
                  clear hU hE
                  replace BQ := (BQ.later hb)
                  clear c0 c1 c2 c3 c4 c5
                  obtain ⟨c0, c1, c2, c3, c4, c5⟩ := BQ.cells6
                  try simp only []
                  refine hK.out _ _ ?_ (fun hHeld2 => ?_)
                  · exact KL1.out _ _ hHeld hb
                  · clear hK K hHeld hb
                    have hHeld := hHeld2
                    clear hHeld2
                    try simp only [Act.put, List.setIfInBounds_toArray, List.set_cons_zero, List.set_cons_succ]
                    refine wpAnyH_ready (rs := [4]) (by kernel_rfl) (by simp) ?_
                    refine AllReadyH.cons rfl (fun K hK => ?_) ?_
                    · go_simp
                      refine hK.out _ _ ?_ (fun hHeld2 => ?_)
                      · exact hHeld
                      · clear hK K hHeld
                        have hHeld := hHeld2
                        clear hHeld2
                        try simp only [Act.put, List.setIfInBounds_toArray, List.set_cons_zero, List.set_cons_succ]
                        refine wpAnyH_ready (rs := [9]) (by kernel_rfl) (by simp) ?_
                        refine AllReadyH.cons rfl (fun K hK => ?_) ?_
                        · go_simp
                          go_fit (pick6 (bit_bd [k0, k1, k2, k3, k4, k5] j NB.out) fQ fU)
                          rintro e w' ⟨z0, z1, z2, z3, z4, z5, rfl, hp, fZ, hb⟩
                          have HZ : Hid _ := exp_round NB.out HQ.out HU.out (pk_num hp)
                          clear hp
                          replace BQ := (BQ.later hb)
                          clear c0 c1 c2 c3 c4 c5
                          obtain ⟨c0, c1, c2, c3, c4, c5⟩ := BQ.cells6
                          try simp only []
                          refine hK.out _ _ ?_ (fun hHeld2 => ?_)
                          · exact KL1.out _ _ hHeld hb
                          · clear hK K hHeld hb
                            have hHeld := hHeld2
                            clear hHeld2
                            try simp only [Act.put, List.setIfInBounds_toArray, List.set_cons_zero, List.set_cons_succ]
                            refine wpAnyH_ready (rs := [10]) (by kernel_rfl) (by simp) ?_
                            refine AllReadyH.cons rfl (fun K hK => ?_) ?_
                            · go_simp
                              refine hK.out _ _ ?_ (fun hHeld2 => ?_)
                              · exact KP1.out _ _ _ _ _ _ _ _ hHeld (by right; simp) (by omega)
                              · clear hK K hHeld
                                have hHeld := hHeld2
                                clear hHeld2
                                try simp only [Act.put, List.setIfInBounds_toArray, List.set_cons_zero, List.set_cons_succ]
                                refine wpAnyH_done (by kernel_rfl) ?_ _
                                refine NoPanic.normal ?_
                                go_wp2_with fail
                                go_roundw
                                case rel => exact ⟨n + 1, z0, z1, z2, z3, z4, z5, by omega, by go_num, fZ, by rw [HJ.out]; exact HZ, blk_put6 BQ, hHeld⟩
                                case measure => simp [intOf]; omega
                            exact AllReadyH.nil
                        exact AllReadyH.nil
                    exact AllReadyH.nil
                exact AllReadyH.nil
            refine AllReadyH.cons rfl (fun K hK => ?_) ?_
            · go_simp
              refine hK.out _ _ ?_ (fun hHeld2 => ?_)
              · exact hHeld
              · clear hK K hHeld
                have hHeld := hHeld2
                clear hHeld2
                try simp only [Act.put, List.setIfInBounds_toArray, List.set_cons_zero, List.set_cons_succ]
                refine wpAnyH_ready (rs := [3]) (by kernel_rfl) (by simp) ?_
                refine AllReadyH.cons rfl (fun K hK => ?_) ?_
                · go_simp
                  go_fit (bit6 fK)
                  rintro e w' ⟨rfl, hb⟩
                  replace BQ := (BQ.later hb)
                  clear c0 c1 c2 c3 c4 c5
                  obtain ⟨c0, c1, c2, c3, c4, c5⟩ := BQ.cells6
                  try simp only []
                  refine hK.out _ _ ?_ (fun hHeld2 => ?_)
                  · exact KL1.out _ _ hHeld hb
                  · clear hK K hHeld hb
                    have hHeld := hHeld2
                    clear hHeld2
                    try simp only [Act.put, List.setIfInBounds_toArray, List.set_cons_zero, List.set_cons_succ]
                    refine wpAnyH_ready (rs := [8]) (by kernel_rfl) (by simp) ?_
                    refine AllReadyH.cons rfl (fun K hK => ?_) ?_
                    · go_simp
                      go_fit (mulR6 fQ fG HM.out)
                      rintro e w' ⟨u0, u1, u2, u3, u4, u5, rfl, fU, hU, hE, hb⟩
                      have HU : Hid _ := mont_step HO.out HQ.out HG.out hE
                      clear hU hE
                      replace BQ := (BQ.later hb)
                      clear c0 c1 c2 c3 c4 c5
                      obtain ⟨c0, c1, c2, c3, c4, c5⟩ := BQ.cells6
                      try simp only []
                      refine hK.out _ _ ?_ (fun hHeld2 => ?_)
                      · exact KL1.out _ _ hHeld hb
                      · clear hK K hHeld hb
                        have hHeld := hHeld2
                        clear hHeld2
                        try simp only [Act.put, List.setIfInBounds_toArray, List.set_cons_zero, List.set_cons_succ]
                        refine wpAnyH_ready (rs := [9]) (by kernel_rfl) (by simp) ?_
                        refine AllReadyH.cons rfl (fun K hK => ?_) ?_
                        · go_simp
                          go_fit (pick6 (bit_bd [k0, k1, k2, k3, k4, k5] j NB.out) fQ fU)
                          rintro e w' ⟨z0, z1, z2, z3, z4, z5, rfl, hp, fZ, hb⟩
                          have HZ : Hid _ := exp_round NB.out HQ.out HU.out (pk_num hp)
                          clear hp
                          replace BQ := (BQ.later hb)
                          clear c0 c1 c2 c3 c4 c5
                          obtain ⟨c0, c1, c2, c3, c4, c5⟩ := BQ.cells6
                          try simp only []
                          refine hK.out _ _ ?_ (fun hHeld2 => ?_)
                          · exact KL1.out _ _ hHeld hb
                          · clear hK K hHeld hb
                            have hHeld := hHeld2
                            clear hHeld2
                            try simp only [Act.put, List.setIfInBounds_toArray, List.set_cons_zero, List.set_cons_succ]
                            refine wpAnyH_ready (rs := [10]) (by kernel_rfl) (by simp) ?_
                            refine AllReadyH.cons rfl (fun K hK => ?_) ?_
                            · go_simp
                              refine hK.out _ _ ?_ (fun hHeld2 => ?_)
                              · exact KP1.out _ _ _ _ _ _ _ _ hHeld (by right; simp) (by omega)
                              · clear hK K hHeld
                                have hHeld := hHeld2
                                clear hHeld2
                                try simp only [Act.put, List.setIfInBounds_toArray, List.set_cons_zero, List.set_cons_succ]
                                refine wpAnyH_done (by kernel_rfl) ?_ _
                                refine NoPanic.normal ?_
                                go_wp2_with fail
                                go_roundw
                                case rel => exact ⟨n + 1, z0, z1, z2, z3, z4, z5, by omega, by go_num, fZ, by rw [HJ.out]; exact HZ, blk_put6 BQ, hHeld⟩
                                case measure => simp [intOf]; omega
                            exact AllReadyH.nil
                        exact AllReadyH.nil
                    exact AllReadyH.nil
                exact AllReadyH.nil
            exact AllReadyH.nil
        exact AllReadyH.nil
    · have g1 : (384 : Int) ≤ (n : Int) := by omega
      have hn2 : n = 384 := by omega
      have HF : Hid (v64 [p0, p1, p2, p3, p4, p5] % v64 [m0, m1, m2, m3, m4, m5] = ((v64 [x0, x1, x2, x3, x4, x5]) ^ (v64 [k0, k1, k2, k3, k4, k5]).toNat * 18446744073709551616 ^ 6) % v64 [m0, m1, m2, m3, m4, m5]) := by
        have := HP.out
        rw [hn2, Nat.sub_self, pow_whole] at this
        exact this
      clear HP
      obtain ⟨c0, c1, c2, c3, c4, c5⟩ := BP.cells6
      go_wp2_with fail
      refine (mulR6 fP fits_one HM.out).mono ?_
      rintro e w3 ⟨z0, z1, z2, z3, z4, z5, rfl, fZ, hZ, hE, hb⟩
      have e1 : v64 [1, 0, 0, 0, 0, 0] = 1 := by simp [v64, pv]
      rw [e1] at hE
      have HZ : Hid _ := mont_out HO.out HF.out hE (v6_bound _ rfl fZ).1 hZ
      have hc := KL1.out _ _ hS1 hb
      clear hZ hE hb e1 c0 c1 c2 c3 c4 c5 hS1
      go_wp2_with fail
      exact bodyPost_ret (v := .agg #[.int .u64 z0, .int .u64 z1, .int .u64 z2, .int .u64 z3, .int .u64 z4, .int .u64 z5]) (by simp [results, Tryd.results36, go_sem, d1a0 _ hc, d1a1 _ hc, d1a2 _ hc, d1a3 _ hc, d1a4 _ hc, d1a5 _ hc]) rfl ⟨z0, z1, z2, z3, z4, z5, rfl, fZ, HZ.out, below_put6 (KB1.out _ hc) (by omega)⟩
end Go.Proofs.YtjpnbbhpgchbpaaDoor
