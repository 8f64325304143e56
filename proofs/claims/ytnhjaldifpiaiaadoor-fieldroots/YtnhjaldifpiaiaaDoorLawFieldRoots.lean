/- The law FieldRoots answers true: the even root of any number, or that there is none; every square has one. -/
import Derived.Test.YtnhjaldifpiaiaaDoorRows
import Derived.Test.YtnhjaldifpiaiaaDoorFAdd
import Derived.Test.YtnhjaldifpiaiaaDoorFRefP
import Derived.Test.YtnhjaldifpiaiaaDoorFRootN
import Derived.Test.YtnhjaldifpiaiaaDoorRefA
import Derived.Deep.WholeRow
import Derived.Deep.RegionHeld3
import Derived.Deep.DeepCutAuto
import Derived.Deep.DeepFit
namespace Go.Proofs.YtnhjaldifpiaiaaDoor
open Go.RowKit

theorem iface_17 : ∀ w : World, (binOp .neq 26 (.iface 33 (.int .i64 17)) (.iface 33 (.int .i64 17))).run Tryd.prog w = .ok (.bool false) w := fun _ => by kernel_rfl
theorem iface_nilneq : ∀ w : World, (binOp .neq 26 .nilIface .nilIface).run Tryd.prog w = .ok (.bool false) w := fun _ => by kernel_rfl
theorem iface_nil : ∀ w : World, (binOp .eql 26 .nilIface .nilIface).run Tryd.prog w = .ok (.bool true) w := fun _ => by kernel_rfl
theorem neq_same (x0 x1 x2 x3 x4 x5 : Int) : ∀ w : World, (Op.equalIn 10000 24 (.agg #[.int .u64 x0, .int .u64 x1, .int .u64 x2, .int .u64 x3, .int .u64 x4, .int .u64 x5]) (.agg #[.int .u64 x0, .int .u64 x1, .int .u64 x2, .int .u64 x3, .int .u64 x4, .int .u64 x5])).run Tryd.prog w = .ok true w := eql_same x0 x1 x2 x3 x4 x5
theorem root_eq {X r z n k M : Int} (hn : n = (z * z) % M) (hk : k = X % M) (hz : z = evenOf r) (he : (evenOf r * evenOf r) % M = (r * r) % M) (hq : (r * r) % M = X % M) : n = k := by
  rw [hn, hz, he, hq, hk]

set_option linter.unusedSimpArgs false in
set_option maxRecDepth 100000 in
set_option maxHeartbeats 8000000 in
theorem law_fieldRoots (x0 x1 x2 x3 x4 x5 : Int) (w : World) (G : Gls w) (fX : fits [x0, x1, x2, x3, x4, x5]) :
    Calls Tryd.prog 3 #[.agg #[.int .u64 x0, .int .u64 x1, .int .u64 x2, .int .u64 x3, .int .u64 x4, .int .u64 x5]] w fun e w' => e = .returned (.bool true) ∧ Below w.heap.size w w' := by
  have B0 := Blk.new w (us [x0, x1, x2, x3, x4, x5]) 24 (w.heap.size) rfl
  have bel : Below w.heap.size w (w.alloc (.cells (us [x0, x1, x2, x3, x4, x5]).toArray 24)) := (Below.refl _ _).alloc (Nat.le_refl _) _
  go_enter Tryd.func3, Tryd.ntmps3
  go_upto_region 1 with fail
  simp only [us, List.map_cons, List.map_nil] at B0 bel
  generalize w.alloc (Obj.cells #[.int .u64 x0, .int .u64 x1, .int .u64 x2, .int .u64 x3, .int .u64 x4, .int .u64 x5] 24) = W at *
  obtain ⟨c0, c1, c2, c3, c4, c5⟩ := B0.cells6
  go_wp2_with fail
  refine (froot6 (G.below bel) fX).mono ?_
  rintro e w1 ⟨s0, s1, s2, s3, s4, s5, fS, ho, hor, hb⟩
  have HI : Hid _ := root_iff ho
  have OB : Hid _ := out_bd ho
  clear ho c0 c1 c2 c3 c4 c5
  replace B0 := B0.later hb
  replace bel := below_step bel hb
  clear hb
  rcases hor with ⟨hne, rfl⟩ | ⟨heq, z0, z1, z2, z3, z4, z5, rfl, fZ, hz⟩
  · have HB : Hid (sqB (v64 [x0, x1, x2, x3, x4, x5]) = false) := by
      show _ = _
      rw [HI.out]; exact decide_eq_false hne
    clear hne HI
    obtain ⟨c0, c1, c2, c3, c4, c5⟩ := B0.cells6
    have lt0 := B0.lt
    go_wp2_with fail
    clear c0 c1 c2 c3 c4 c5 lt0
    replace B0 := B0.alloc (.cells (us [0, 0, 0, 0, 0, 0]).toArray 24)
    have ltbr := bel.size
    have Br := Blk.new w1 (us [0, 0, 0, 0, 0, 0]) 24 w1.heap.size rfl
    replace bel := below_alloc (o := .cells (us [0, 0, 0, 0, 0, 0]).toArray 24) bel
    simp only [us, List.map_cons, List.map_nil] at B0 Br bel
    obtain ⟨br, hbr⟩ : ∃ b, b = w1.heap.size := ⟨_, rfl⟩
    generalize w1.alloc (Obj.cells #[.int .u64 0, .int .u64 0, .int .u64 0, .int .u64 0, .int .u64 0, .int .u64 0] 24) = Wr at *
    rw [← hbr] at Br ltbr ⊢
    clear hbr
    obtain ⟨S1, hS1, KL1, KA1, KD1, KS1, KP1, KN1, KB1, KM1, KW1⟩ := held_mk (w0 := w) (W := Wr) [(w.heap.size, [x0, x1, x2, x3, x4, x5]), (br, [0, 0, 0, 0, 0, 0])] [] (by
      intro b X h
      simp only [List.mem_cons, List.not_mem_nil, or_false, Prod.mk.injEq] at h
      rcases h with ⟨rfl, rfl⟩ | ⟨rfl, rfl⟩
      · exact B0
      · exact Br) (by
      intro b h
      exact absurd h (by simp)) (by
      intro b X h
      simp) bel
    obtain ⟨c1a0, c1a1, c1a2, c1a3, c1a4, c1a5, c1a6⟩ := rule6 (S := Hd S1) (b := w.heap.size) (x0 := x0) (x1 := x1) (x2 := x2) (x3 := x3) (x4 := x4) (x5 := x5) (fun wx h => KM1.out wx _ _ h (by simp))
    obtain ⟨c1b0, c1b1, c1b2, c1b3, c1b4, c1b5, c1b6⟩ := rule6 (S := Hd S1) (b := br) (x0 := 0) (x1 := 0) (x2 := 0) (x3 := 0) (x4 := 0) (x5 := 0) (fun wx h => KM1.out wx _ _ h (by simp))
    clear B0 Br bel
    have q1 := iface_17
    have q2 := neq_same 0 0 0 0 0 0
    refine (num6 fX).mono ?_
    rintro e w2 ⟨va, rfl, NA, hb⟩
    have hS2 := KL1.out _ _ hS1 hb
    clear hb hS1
    go_wp2_with fail
    refine (psquare NA (num_30 _ rfl fX)).mono ?_
    rintro e w3 ⟨rfl, hb⟩
    have hS1 := KL1.out _ _ hS2 hb
    clear hb hS2 NA
    rw [HB.out]
    go_wp2_with fail
    refine (fmul6 (G.below (KB1.out _ hS1)) fX fX).mono ?_
    rintro e wa ⟨y0, y1, y2, y3, y4, y5, rfl, fY, hy, hb⟩
    have HY : Hid _ := hy
    have hSa := KL1.out _ _ hS1 hb
    clear hy hb hS1
    go_wp2_with fail
    refine (froot6 (G.below (KB1.out _ hSa)) fY).mono ?_
    rintro e wb ⟨k0, k1, k2, k3, k4, k5, fK, ho, ⟨hne, -⟩ | ⟨hq, v0, v1, v2, v3, v4, v5, rfl, fV, hv⟩, hb⟩
    · exact absurd (root_sq (v6_bound _ rfl fX).1 HY.out ho) hne
    · have HPM : Hid _ := pm_same pr_P (x := v64 [x0, x1, x2, x3, x4, x5]) (z := v64 [v0, v1, v2, v3, v4, v5]) (by rw [← PP_nat, hv, (even_is (out_bd ho).1 (out_bd ho).2).2.2.2, hq, HY.out, Int.emod_emod]) (by rw [hv]; exact (even_is (out_bd ho).1 (out_bd ho).2).2.1) (by rw [← PP_nat, hv]; exact (even_is (out_bd ho).1 (out_bd ho).2).2.2.1)
      have hSb := KL1.out _ _ hSa hb
      clear ho hq hv hb hSa HY fY
      have B0 := KM1.out _ _ _ hSb (show (w.heap.size, [x0, x1, x2, x3, x4, x5]) ∈ _ by simp)
      have bel := KB1.out _ hSb
      clear hSb c1a0 c1a1 c1a2 c1a3 c1a4 c1a5 c1a6 c1b0 c1b1 c1b2 c1b3 c1b4 c1b5 c1b6
      go_upto_region 9 with fail
      replace B0 := B0.alloc (.cells (us [v0, v1, v2, v3, v4, v5]).toArray 24)
      have ltbv := bel.size
      have Bv := Blk.new wb (us [v0, v1, v2, v3, v4, v5]) 24 wb.heap.size rfl
      replace bel := below_alloc (o := .cells (us [v0, v1, v2, v3, v4, v5]).toArray 24) bel
      simp only [us, List.map_cons, List.map_nil] at B0 Bv bel
      obtain ⟨bv, hbv⟩ : ∃ b, b = wb.heap.size := ⟨_, rfl⟩
      generalize wb.alloc (Obj.cells #[.int .u64 v0, .int .u64 v1, .int .u64 v2, .int .u64 v3, .int .u64 v4, .int .u64 v5] 24) = Wv at *
      rw [← hbv] at Bv ltbv ⊢
      clear hbv
      obtain ⟨S9, hS9, KL9, KA9, KD9, KS9, KP9, KN9, KB9, KM9, KW9⟩ := held_mk (w0 := w) (W := Wv) [(w.heap.size, [x0, x1, x2, x3, x4, x5]), (bv, [v0, v1, v2, v3, v4, v5])] [] (by
        intro b X h
        simp only [List.mem_cons, List.not_mem_nil, or_false, Prod.mk.injEq] at h
        rcases h with ⟨rfl, rfl⟩ | ⟨rfl, rfl⟩
        · exact B0
        · exact Bv) (by
        intro b h
        exact absurd h (by simp)) (by
        intro b X h
        simp) bel
      obtain ⟨c9a0, c9a1, c9a2, c9a3, c9a4, c9a5, c9a6⟩ := rule6 (S := Hd S9) (b := w.heap.size) (x0 := x0) (x1 := x1) (x2 := x2) (x3 := x3) (x4 := x4) (x5 := x5) (fun wx h => KM9.out wx _ _ h (by simp))
      obtain ⟨c9b0, c9b1, c9b2, c9b3, c9b4, c9b5, c9b6⟩ := rule6 (S := Hd S9) (b := bv) (x0 := v0) (x1 := v1) (x2 := v2) (x3 := v3) (x4 := v4) (x5 := v5) (fun wx h => KM9.out wx _ _ h (by simp))
      clear B0 Bv bel
      have q5 := iface_nil
      rw [← PP_nat] at HPM
      by_cases hsame : v64 [v0, v1, v2, v3, v4, v5] = v64 [x0, x1, x2, x3, x4, x5] % PP
      · have HW : Hid _ := hsame
        clear hsame HPM
        go_wp2_with fail
        refine wp_region_noPanic ?_
        refine wp_region_held_drew (S := Hd S9) (by kernel_rfl) (KD9.out _ hS9) (fun hHeld => ?_)
        clear hS9
        refine wpAnyH_ready (rs := [0]) (by kernel_rfl) (by simp) ?_
        refine AllReadyH.cons rfl (fun K hK => ?_) AllReadyH.nil
        go_simp
        go_fit (two_any (G.below (KB9.out _ hHeld)))
        rintro e w' ⟨rfl, hb⟩
        try simp only []
        refine hK.out _ _ (KL9.out _ _ hHeld hb) (fun hHeld2 => ?_)
        clear hK K hHeld hb
        have hHeld := hHeld2
        clear hHeld2
        try simp only [Act.put, List.setIfInBounds_toArray, List.set_cons_zero, List.set_cons_succ]
        refine wpAnyH_take (i := 1) (v := ?_) rfl (by kernel_rfl) (by kernel_rfl) (by kernel_rfl) (fun _ _ _ h => h) (Or.inl ⟨by rfl, ?_⟩) (by assumption) ?_
        rotate_left
        · intro w hSw
          go_simp
          try with_reducible rfl
        try simp only [Act.put, List.setIfInBounds_toArray, List.set_cons_zero, List.set_cons_succ]
        refine wpAnyH_take (i := 2) (v := ?_) rfl (by kernel_rfl) (by kernel_rfl) (by kernel_rfl) (fun _ _ _ h => h) (Or.inl ⟨by rfl, ?_⟩) (by assumption) ?_
        rotate_left
        · intro w hSw
          go_simp
          try with_reducible rfl
        try simp only [Act.put, List.setIfInBounds_toArray, List.set_cons_zero, List.set_cons_succ]
        refine wpAnyH_take (i := 3) (v := ?_) rfl (by kernel_rfl) (by kernel_rfl) (by kernel_rfl) (fun _ _ _ h => h) (Or.inl ⟨by rfl, ?_⟩) (by assumption) ?_
        rotate_left
        · intro w hSw
          go_simp
          try with_reducible rfl
        try simp only [Act.put, List.setIfInBounds_toArray, List.set_cons_zero, List.set_cons_succ]
        refine wpAnyH_take (i := 4) (v := ?_) rfl (by kernel_rfl) (by kernel_rfl) (by kernel_rfl) (fun _ _ _ h => h) (Or.inl ⟨by rfl, ?_⟩) (by assumption) ?_
        rotate_left
        · intro w hSw
          go_simp
          try with_reducible rfl
        try simp only [Act.put, List.setIfInBounds_toArray, List.set_cons_zero, List.set_cons_succ]
        refine wpAnyH_take (i := 5) (v := ?_) rfl (by kernel_rfl) (by kernel_rfl) (by kernel_rfl) (fun _ _ _ h => h) (Or.inl ⟨by rfl, ?_⟩) (by assumption) ?_
        rotate_left
        · intro w hSw
          go_simp
          try with_reducible rfl
        try simp only [Act.put, List.setIfInBounds_toArray, List.set_cons_zero, List.set_cons_succ]
        refine wpAnyH_take (i := 6) (v := ?_) rfl (by kernel_rfl) (by kernel_rfl) (by kernel_rfl) (fun _ _ _ h => h) (Or.inl ⟨by rfl, ?_⟩) (by assumption) ?_
        rotate_left
        · intro w hSw
          go_simp
          try with_reducible rfl
        try simp only [Act.put, List.setIfInBounds_toArray, List.set_cons_zero, List.set_cons_succ]
        refine wpAnyH_take (i := 7) (v := ?_) rfl (by kernel_rfl) (by kernel_rfl) (by kernel_rfl) (fun _ _ _ h => h) (Or.inl ⟨by rfl, ?_⟩) (by assumption) ?_
        rotate_left
        · intro w hSw
          go_simp
          try with_reducible rfl
        try simp only [Act.put, List.setIfInBounds_toArray, List.set_cons_zero, List.set_cons_succ]
        refine wpAnyH_ready (rs := [8]) (by kernel_rfl) (by simp) ?_
        refine AllReadyH.cons rfl (fun K hK => ?_) AllReadyH.nil
        go_simp
        go_fit (frest6 (G.below (KB9.out _ hHeld)) fX)
        rintro e w' ⟨n0, n1, n2, n3, n4, n5, rfl, fN, hv, hb⟩
        have eq : [v0, v1, v2, v3, v4, v5] = [n0, n1, n2, n3, n4, n5] := v64_inj _ _ rfl fV fN (HW.out.trans hv.symm)
        simp only [List.cons.injEq, and_true] at eq
        obtain ⟨rfl, rfl, rfl, rfl, rfl, rfl⟩ := eq
        have qa := eql_same v0 v1 v2 v3 v4 v5
        clear hv
        try simp only []
        refine hK.out _ _ (KL9.out _ _ hHeld hb) (fun hHeld2 => ?_)
        clear hK K hHeld hb
        have hHeld := hHeld2
        clear hHeld2
        try simp only [Act.put, List.setIfInBounds_toArray, List.set_cons_zero, List.set_cons_succ]
        refine wpAnyH_take (i := 9) (v := ?_) rfl (by kernel_rfl) (by kernel_rfl) (by kernel_rfl) (fun _ _ _ h => h) (Or.inl ⟨by rfl, ?_⟩) (by assumption) ?_
        rotate_left
        · intro w hSw
          go_simp
          try with_reducible rfl
        try simp only [Act.put, List.setIfInBounds_toArray, List.set_cons_zero, List.set_cons_succ]
        refine wpAnyH_take (i := 10) (v := ?_) rfl (by kernel_rfl) (by kernel_rfl) (by kernel_rfl) (fun _ _ _ h => h) (Or.inl ⟨by rfl, ?_⟩) (by assumption) ?_
        rotate_left
        · intro w hSw
          go_simp
          try with_reducible rfl
        try simp only [Act.put, List.setIfInBounds_toArray, List.set_cons_zero, List.set_cons_succ]
        refine wpAnyH_take (i := 11) (v := undef) rfl (by kernel_rfl) (by kernel_rfl) (by kernel_rfl) (fun _ _ _ h => h) (Or.inr ⟨by rfl, rfl⟩) (by assumption) ?_
        try simp only [Act.put, List.setIfInBounds_toArray, List.set_cons_zero, List.set_cons_succ]
        refine wpAnyH_take (i := 12) (v := undef) rfl (by kernel_rfl) (by kernel_rfl) (by kernel_rfl) (fun _ _ _ h => h) (Or.inr ⟨by rfl, rfl⟩) (by assumption) ?_
        try simp only [Act.put, List.setIfInBounds_toArray, List.set_cons_zero, List.set_cons_succ]
        refine wpAnyH_ready (rs := [13]) (by kernel_rfl) (by simp) ?_
        refine AllReadyH.cons rfl (fun K hK => ?_) AllReadyH.nil
        go_simp
        refine hK.out _ _ hHeld (fun hHeld2 => ?_)
        clear hK K hHeld
        have hHeld := hHeld2
        clear hHeld2
        try simp only [Act.put, List.setIfInBounds_toArray, List.set_cons_zero, List.set_cons_succ]
        refine wpAnyH_take (i := 14) (v := undef) rfl (by kernel_rfl) (by kernel_rfl) (by kernel_rfl) (fun _ _ _ h => h) (Or.inr ⟨by rfl, rfl⟩) (by assumption) ?_
        try simp only [Act.put, List.setIfInBounds_toArray, List.set_cons_zero, List.set_cons_succ]
        refine wpAnyH_take (i := 15) (v := ?_) rfl (by kernel_rfl) (by kernel_rfl) (by kernel_rfl) (fun _ _ _ h => h) (Or.inl ⟨by rfl, ?_⟩) (by assumption) ?_
        rotate_left
        · intro w hSw
          go_simp
          try with_reducible rfl
        try simp only [Act.put, List.setIfInBounds_toArray, List.set_cons_zero, List.set_cons_succ]
        refine wpAnyH_ready (rs := [16]) (by kernel_rfl) (by simp) ?_
        refine AllReadyH.cons rfl (fun K hK => ?_) AllReadyH.nil
        go_simp
        refine hK.out _ _ hHeld (fun hHeld2 => ?_)
        clear hK K hHeld
        have hHeld := hHeld2
        clear hHeld2
        try simp only [Act.put, List.setIfInBounds_toArray, List.set_cons_zero, List.set_cons_succ]
        refine wpAnyH_ready (rs := [17]) (by kernel_rfl) (by simp) ?_
        refine AllReadyH.cons rfl (fun K hK => ?_) AllReadyH.nil
        go_simp
        refine hK.out _ _ hHeld (fun hHeld2 => ?_)
        clear hK K hHeld
        have hHeld := hHeld2
        clear hHeld2
        try simp only [Act.put, List.setIfInBounds_toArray, List.set_cons_zero, List.set_cons_succ]
        refine wpAnyH_done (by kernel_rfl) ?_ _
        refine NoPanic.normal ?_
        go_wp2_with fail
        go_ret
        exact ⟨rfl, KB9.out _ hHeld⟩
      · have HW : Hid _ := hsame
        have HZ : Hid _ := HPM.out.resolve_left hsame
        clear hsame HPM
        go_wp2_with fail
        refine wp_region_noPanic ?_
        refine wp_region_held_drew (S := Hd S9) (by kernel_rfl) (KD9.out _ hS9) (fun hHeld => ?_)
        clear hS9
        refine wpAnyH_ready (rs := [0]) (by kernel_rfl) (by simp) ?_
        refine AllReadyH.cons rfl (fun K hK => ?_) AllReadyH.nil
        go_simp
        go_fit (two_any (G.below (KB9.out _ hHeld)))
        rintro e w' ⟨rfl, hb⟩
        try simp only []
        refine hK.out _ _ (KL9.out _ _ hHeld hb) (fun hHeld2 => ?_)
        clear hK K hHeld hb
        have hHeld := hHeld2
        clear hHeld2
        try simp only [Act.put, List.setIfInBounds_toArray, List.set_cons_zero, List.set_cons_succ]
        refine wpAnyH_take (i := 1) (v := ?_) rfl (by kernel_rfl) (by kernel_rfl) (by kernel_rfl) (fun _ _ _ h => h) (Or.inl ⟨by rfl, ?_⟩) (by assumption) ?_
        rotate_left
        · intro w hSw
          go_simp
          try with_reducible rfl
        try simp only [Act.put, List.setIfInBounds_toArray, List.set_cons_zero, List.set_cons_succ]
        refine wpAnyH_take (i := 2) (v := ?_) rfl (by kernel_rfl) (by kernel_rfl) (by kernel_rfl) (fun _ _ _ h => h) (Or.inl ⟨by rfl, ?_⟩) (by assumption) ?_
        rotate_left
        · intro w hSw
          go_simp
          try with_reducible rfl
        try simp only [Act.put, List.setIfInBounds_toArray, List.set_cons_zero, List.set_cons_succ]
        refine wpAnyH_take (i := 3) (v := ?_) rfl (by kernel_rfl) (by kernel_rfl) (by kernel_rfl) (fun _ _ _ h => h) (Or.inl ⟨by rfl, ?_⟩) (by assumption) ?_
        rotate_left
        · intro w hSw
          go_simp
          try with_reducible rfl
        try simp only [Act.put, List.setIfInBounds_toArray, List.set_cons_zero, List.set_cons_succ]
        refine wpAnyH_take (i := 4) (v := ?_) rfl (by kernel_rfl) (by kernel_rfl) (by kernel_rfl) (fun _ _ _ h => h) (Or.inl ⟨by rfl, ?_⟩) (by assumption) ?_
        rotate_left
        · intro w hSw
          go_simp
          try with_reducible rfl
        try simp only [Act.put, List.setIfInBounds_toArray, List.set_cons_zero, List.set_cons_succ]
        refine wpAnyH_take (i := 5) (v := ?_) rfl (by kernel_rfl) (by kernel_rfl) (by kernel_rfl) (fun _ _ _ h => h) (Or.inl ⟨by rfl, ?_⟩) (by assumption) ?_
        rotate_left
        · intro w hSw
          go_simp
          try with_reducible rfl
        try simp only [Act.put, List.setIfInBounds_toArray, List.set_cons_zero, List.set_cons_succ]
        refine wpAnyH_take (i := 6) (v := ?_) rfl (by kernel_rfl) (by kernel_rfl) (by kernel_rfl) (fun _ _ _ h => h) (Or.inl ⟨by rfl, ?_⟩) (by assumption) ?_
        rotate_left
        · intro w hSw
          go_simp
          try with_reducible rfl
        try simp only [Act.put, List.setIfInBounds_toArray, List.set_cons_zero, List.set_cons_succ]
        refine wpAnyH_take (i := 7) (v := ?_) rfl (by kernel_rfl) (by kernel_rfl) (by kernel_rfl) (fun _ _ _ h => h) (Or.inl ⟨by rfl, ?_⟩) (by assumption) ?_
        rotate_left
        · intro w hSw
          go_simp
          try with_reducible rfl
        try simp only [Act.put, List.setIfInBounds_toArray, List.set_cons_zero, List.set_cons_succ]
        refine wpAnyH_ready (rs := [8]) (by kernel_rfl) (by simp) ?_
        refine AllReadyH.cons rfl (fun K hK => ?_) AllReadyH.nil
        go_simp
        go_fit (frest6 (G.below (KB9.out _ hHeld)) fX)
        rintro e w' ⟨n0, n1, n2, n3, n4, n5, rfl, fN, hv, hb⟩
        have qn := eql_not (show [v0, v1, v2, v3, v4, v5] ≠ [n0, n1, n2, n3, n4, n5] from fun h => HW.out (by rw [h]; exact hv))
        clear hv
        try simp only []
        refine hK.out _ _ (KL9.out _ _ hHeld hb) (fun hHeld2 => ?_)
        clear hK K hHeld hb
        have hHeld := hHeld2
        clear hHeld2
        try simp only [Act.put, List.setIfInBounds_toArray, List.set_cons_zero, List.set_cons_succ]
        refine wpAnyH_take (i := 9) (v := ?_) rfl (by kernel_rfl) (by kernel_rfl) (by kernel_rfl) (fun _ _ _ h => h) (Or.inl ⟨by rfl, ?_⟩) (by assumption) ?_
        rotate_left
        · intro w hSw
          go_simp
          try with_reducible rfl
        try simp only [Act.put, List.setIfInBounds_toArray, List.set_cons_zero, List.set_cons_succ]
        refine wpAnyH_take (i := 10) (v := ?_) rfl (by kernel_rfl) (by kernel_rfl) (by kernel_rfl) (fun _ _ _ h => h) (Or.inl ⟨by rfl, ?_⟩) (by assumption) ?_
        rotate_left
        · intro w hSw
          go_simp
          try with_reducible rfl
        try simp only [Act.put, List.setIfInBounds_toArray, List.set_cons_zero, List.set_cons_succ]
        refine wpAnyH_take (i := 11) (v := ?_) rfl (by kernel_rfl) (by kernel_rfl) (by kernel_rfl) (fun _ _ _ h => h) (Or.inl ⟨by rfl, ?_⟩) (by assumption) ?_
        rotate_left
        · intro w hSw
          go_simp
          try with_reducible rfl
        try simp only [Act.put, List.setIfInBounds_toArray, List.set_cons_zero, List.set_cons_succ]
        refine wpAnyH_take (i := 12) (v := ?_) rfl (by kernel_rfl) (by kernel_rfl) (by kernel_rfl) (fun _ _ _ h => h) (Or.inl ⟨by rfl, ?_⟩) (by assumption) ?_
        rotate_left
        · intro w hSw
          go_simp
          try with_reducible rfl
        try simp only [Act.put, List.setIfInBounds_toArray, List.set_cons_zero, List.set_cons_succ]
        refine wpAnyH_ready (rs := [13]) (by kernel_rfl) (by simp) ?_
        refine AllReadyH.cons rfl (fun K hK => ?_) AllReadyH.nil
        go_simp
        go_fit (fneg6 (G.below (KB9.out _ hHeld)) fX)
        rintro e w' ⟨q0, q1, q2, q3, q4, q5, rfl, fQ, hv, hb⟩
        have eq : [v0, v1, v2, v3, v4, v5] = [q0, q1, q2, q3, q4, q5] := v64_inj _ _ rfl fV fQ (HZ.out.trans hv.symm)
        simp only [List.cons.injEq, and_true] at eq
        obtain ⟨rfl, rfl, rfl, rfl, rfl, rfl⟩ := eq
        have qa := eql_same v0 v1 v2 v3 v4 v5
        clear hv
        try simp only []
        refine hK.out _ _ (KL9.out _ _ hHeld hb) (fun hHeld2 => ?_)
        clear hK K hHeld hb
        have hHeld := hHeld2
        clear hHeld2
        try simp only [Act.put, List.setIfInBounds_toArray, List.set_cons_zero, List.set_cons_succ]
        refine wpAnyH_take (i := 14) (v := ?_) rfl (by kernel_rfl) (by kernel_rfl) (by kernel_rfl) (fun _ _ _ h => h) (Or.inl ⟨by rfl, ?_⟩) (by assumption) ?_
        rotate_left
        · intro w hSw
          go_simp
          try with_reducible rfl
        try simp only [Act.put, List.setIfInBounds_toArray, List.set_cons_zero, List.set_cons_succ]
        refine wpAnyH_take (i := 15) (v := ?_) rfl (by kernel_rfl) (by kernel_rfl) (by kernel_rfl) (fun _ _ _ h => h) (Or.inl ⟨by rfl, ?_⟩) (by assumption) ?_
        rotate_left
        · intro w hSw
          go_simp
          try with_reducible rfl
        try simp only [Act.put, List.setIfInBounds_toArray, List.set_cons_zero, List.set_cons_succ]
        refine wpAnyH_ready (rs := [16]) (by kernel_rfl) (by simp) ?_
        refine AllReadyH.cons rfl (fun K hK => ?_) AllReadyH.nil
        go_simp
        refine hK.out _ _ hHeld (fun hHeld2 => ?_)
        clear hK K hHeld
        have hHeld := hHeld2
        clear hHeld2
        try simp only [Act.put, List.setIfInBounds_toArray, List.set_cons_zero, List.set_cons_succ]
        refine wpAnyH_ready (rs := [17]) (by kernel_rfl) (by simp) ?_
        refine AllReadyH.cons rfl (fun K hK => ?_) AllReadyH.nil
        go_simp
        refine hK.out _ _ hHeld (fun hHeld2 => ?_)
        clear hK K hHeld
        have hHeld := hHeld2
        clear hHeld2
        try simp only [Act.put, List.setIfInBounds_toArray, List.set_cons_zero, List.set_cons_succ]
        refine wpAnyH_done (by kernel_rfl) ?_ _
        refine NoPanic.normal ?_
        go_wp2_with fail
        go_ret
        exact ⟨rfl, KB9.out _ hHeld⟩
  · have HB : Hid (sqB (v64 [x0, x1, x2, x3, x4, x5]) = true) := by
      show _ = _
      rw [HI.out]; exact decide_eq_true heq
    have EV : Hid _ := even_is OB.out.1 OB.out.2
    have HZ : Hid _ := hz
    have HQ : Hid _ := heq
    clear heq hz HI
    have ze : z0 % 2 = 0 := by
      have h1 := EV.out.1
      rw [← HZ.out] at h1
      simp only [v64, pv] at h1
      omega
    have zb : 0 ≤ z0 := (fZ 0).1
    have zt : z0.tmod 2 = 0 := by rw [Int.tmod_eq_emod_of_nonneg zb]; exact ze
    obtain ⟨c0, c1, c2, c3, c4, c5⟩ := B0.cells6
    have lt0 := B0.lt
    go_wp2_with fail
    clear c0 c1 c2 c3 c4 c5 lt0
    replace B0 := B0.alloc (.cells (us [z0, z1, z2, z3, z4, z5]).toArray 24)
    have ltbr := bel.size
    have Br := Blk.new w1 (us [z0, z1, z2, z3, z4, z5]) 24 w1.heap.size rfl
    replace bel := below_alloc (o := .cells (us [z0, z1, z2, z3, z4, z5]).toArray 24) bel
    simp only [us, List.map_cons, List.map_nil] at B0 Br bel
    obtain ⟨br, hbr⟩ : ∃ b, b = w1.heap.size := ⟨_, rfl⟩
    generalize w1.alloc (Obj.cells #[.int .u64 z0, .int .u64 z1, .int .u64 z2, .int .u64 z3, .int .u64 z4, .int .u64 z5] 24) = Wr at *
    rw [← hbr] at Br ltbr ⊢
    clear hbr
    obtain ⟨S1, hS1, KL1, KA1, KD1, KS1, KP1, KN1, KB1, KM1, KW1⟩ := held_mk (w0 := w) (W := Wr) [(w.heap.size, [x0, x1, x2, x3, x4, x5]), (br, [z0, z1, z2, z3, z4, z5])] [] (by
      intro b X h
      simp only [List.mem_cons, List.not_mem_nil, or_false, Prod.mk.injEq] at h
      rcases h with ⟨rfl, rfl⟩ | ⟨rfl, rfl⟩
      · exact B0
      · exact Br) (by
      intro b h
      exact absurd h (by simp)) (by
      intro b X h
      simp) bel
    obtain ⟨c1a0, c1a1, c1a2, c1a3, c1a4, c1a5, c1a6⟩ := rule6 (S := Hd S1) (b := w.heap.size) (x0 := x0) (x1 := x1) (x2 := x2) (x3 := x3) (x4 := x4) (x5 := x5) (fun wx h => KM1.out wx _ _ h (by simp))
    obtain ⟨c1b0, c1b1, c1b2, c1b3, c1b4, c1b5, c1b6⟩ := rule6 (S := Hd S1) (b := br) (x0 := z0) (x1 := z1) (x2 := z2) (x3 := z3) (x4 := z4) (x5 := z5) (fun wx h => KM1.out wx _ _ h (by simp))
    clear B0 Br bel
    have q1 := iface_nilneq
    refine (num6 fX).mono ?_
    rintro e w2 ⟨va, rfl, NA, hb⟩
    have hS2 := KL1.out _ _ hS1 hb
    clear hb hS1
    go_wp2_with fail
    refine (psquare NA (num_30 _ rfl fX)).mono ?_
    rintro e w3 ⟨rfl, hb⟩
    have hS1 := KL1.out _ _ hS2 hb
    clear hb hS2 NA
    rw [HB.out]
    go_upto_region 6 with fail
    go_cut [48] (fun p wx => p = .bool false ∧ Hd S1 wx)
    case first =>
      go_region_held3 (Hd S1)
        (first
          | with_reducible exact KP1.out _ _ _ _ _ _ _ _ (by assumption) (by first | (right; simp; done) | (left; omega)) (by omega)
          | with_reducible exact KL1.out _ _ (by assumption) hb
          | with_reducible exact KA1.out _ _ (by assumption)
          | with_reducible exact KS1.out _ _ _ (by omega) (by assumption)
          | with_reducible exact KD1.out _ hS1
          | with_reducible exact KD1.out _ (KA1.out _ _ hS1)
          | with_reducible assumption)
        (first
          | (go_at_call 11; go_fit (fmul6 (G.below (KB1.out _ (by first | with_reducible assumption | with_reducible exact KA1.out _ _ (by assumption) | with_reducible exact KD1.out _ (by assumption)))) fZ fZ); rintro e w' ⟨n0, n1, n2, n3, n4, n5, rfl, fN, hv, hb⟩; have HN : Hid _ := hv; clear hv)
          | (go_at_call 12; go_fit (frest6 (G.below (KB1.out _ (by first | with_reducible assumption | with_reducible exact KA1.out _ _ (by assumption) | with_reducible exact KD1.out _ (by assumption)))) fX); rintro e w' ⟨k0, k1, k2, k3, k4, k5, rfl, fK, hv, hb⟩; (have eq : [n0, n1, n2, n3, n4, n5] = [k0, k1, k2, k3, k4, k5] := (by refine v64_inj _ _ rfl fN fK ?_; exact root_eq HN.out hv HZ.out EV.out.2.2.2 HQ.out)); simp only [List.cons.injEq, and_true] at eq; obtain ⟨rfl, rfl, rfl, rfl, rfl, rfl⟩ := eq; have qa := eql_same n0 n1 n2 n3 n4 n5; clear hv; have qn := neq_same n0 n1 n2 n3 n4 n5)
          | (go_at_call 10; go_fit (num6 fZ); rintro e w' ⟨vb, rfl, NB, hb⟩)
          | (go_at_call 14; go_fit p_any; rintro e w' ⟨vp, rfl, NP, hb⟩; (first | replace NB := NB.later hb | replace NB := NB.drew.later hb | skip))
          | (go_at_call 13; go_fit (cmp_any _ _ _ _ _ NB NP); rintro e w' ⟨rfl, hb⟩; (have hcd : decide (0 ≤ cmpN (v64 [z0, z1, z2, z3, z4, z5]) PP) = false := decide_eq_false (by have := cmp_neg (show v64 [z0, z1, z2, z3, z4, z5] < PP by rw [HZ.out]; exact EV.out.2.2.1); omega)); (have hcn : ¬ 0 ≤ cmpN (v64 [z0, z1, z2, z3, z4, z5]) PP := of_decide_eq_false hcd)))
      all_goals
        go_wp2_with fail
        go_meet
        exact ⟨rfl, by with_reducible assumption⟩
    case rest =>
      clear hS1
      obtain ⟨rfl, hS1⟩ := hcut
      clear ze zb zt
      go_wp2_with fail
      refine (fmul6 (G.below (KB1.out _ hS1)) fX fX).mono ?_
      rintro e wa ⟨y0, y1, y2, y3, y4, y5, rfl, fY, hy, hb⟩
      have HY : Hid _ := hy
      have hSa := KL1.out _ _ hS1 hb
      clear hy hb hS1
      go_wp2_with fail
      refine (froot6 (G.below (KB1.out _ hSa)) fY).mono ?_
      rintro e wb ⟨k0, k1, k2, k3, k4, k5, fK, ho, ⟨hne, -⟩ | ⟨hq, v0, v1, v2, v3, v4, v5, rfl, fV, hv⟩, hb⟩
      · exact absurd (root_sq (v6_bound _ rfl fX).1 HY.out ho) hne
      · have HPM : Hid _ := pm_same pr_P (x := v64 [x0, x1, x2, x3, x4, x5]) (z := v64 [v0, v1, v2, v3, v4, v5]) (by rw [← PP_nat, hv, (even_is (out_bd ho).1 (out_bd ho).2).2.2.2, hq, HY.out, Int.emod_emod]) (by rw [hv]; exact (even_is (out_bd ho).1 (out_bd ho).2).2.1) (by rw [← PP_nat, hv]; exact (even_is (out_bd ho).1 (out_bd ho).2).2.2.1)
        have hSb := KL1.out _ _ hSa hb
        clear ho hq hv hb hSa HY fY
        have B0 := KM1.out _ _ _ hSb (show (w.heap.size, [x0, x1, x2, x3, x4, x5]) ∈ _ by simp)
        have bel := KB1.out _ hSb
        clear hSb c1a0 c1a1 c1a2 c1a3 c1a4 c1a5 c1a6 c1b0 c1b1 c1b2 c1b3 c1b4 c1b5 c1b6
        go_upto_region 9 with fail
        replace B0 := B0.alloc (.cells (us [v0, v1, v2, v3, v4, v5]).toArray 24)
        have ltbv := bel.size
        have Bv := Blk.new wb (us [v0, v1, v2, v3, v4, v5]) 24 wb.heap.size rfl
        replace bel := below_alloc (o := .cells (us [v0, v1, v2, v3, v4, v5]).toArray 24) bel
        simp only [us, List.map_cons, List.map_nil] at B0 Bv bel
        obtain ⟨bv, hbv⟩ : ∃ b, b = wb.heap.size := ⟨_, rfl⟩
        generalize wb.alloc (Obj.cells #[.int .u64 v0, .int .u64 v1, .int .u64 v2, .int .u64 v3, .int .u64 v4, .int .u64 v5] 24) = Wv at *
        rw [← hbv] at Bv ltbv ⊢
        clear hbv
        obtain ⟨S9, hS9, KL9, KA9, KD9, KS9, KP9, KN9, KB9, KM9, KW9⟩ := held_mk (w0 := w) (W := Wv) [(w.heap.size, [x0, x1, x2, x3, x4, x5]), (bv, [v0, v1, v2, v3, v4, v5])] [] (by
          intro b X h
          simp only [List.mem_cons, List.not_mem_nil, or_false, Prod.mk.injEq] at h
          rcases h with ⟨rfl, rfl⟩ | ⟨rfl, rfl⟩
          · exact B0
          · exact Bv) (by
          intro b h
          exact absurd h (by simp)) (by
          intro b X h
          simp) bel
        obtain ⟨c9a0, c9a1, c9a2, c9a3, c9a4, c9a5, c9a6⟩ := rule6 (S := Hd S9) (b := w.heap.size) (x0 := x0) (x1 := x1) (x2 := x2) (x3 := x3) (x4 := x4) (x5 := x5) (fun wx h => KM9.out wx _ _ h (by simp))
        obtain ⟨c9b0, c9b1, c9b2, c9b3, c9b4, c9b5, c9b6⟩ := rule6 (S := Hd S9) (b := bv) (x0 := v0) (x1 := v1) (x2 := v2) (x3 := v3) (x4 := v4) (x5 := v5) (fun wx h => KM9.out wx _ _ h (by simp))
        clear B0 Bv bel
        have q5 := iface_nil
        rw [← PP_nat] at HPM
        by_cases hsame : v64 [v0, v1, v2, v3, v4, v5] = v64 [x0, x1, x2, x3, x4, x5] % PP
        · have HW : Hid _ := hsame
          clear hsame HPM
          go_wp2_with fail
          refine wp_region_noPanic ?_
          refine wp_region_held_drew (S := Hd S9) (by kernel_rfl) (KD9.out _ hS9) (fun hHeld => ?_)
          clear hS9
          refine wpAnyH_ready (rs := [0]) (by kernel_rfl) (by simp) ?_
          refine AllReadyH.cons rfl (fun K hK => ?_) AllReadyH.nil
          go_simp
          go_fit (two_any (G.below (KB9.out _ hHeld)))
          rintro e w' ⟨rfl, hb⟩
          try simp only []
          refine hK.out _ _ (KL9.out _ _ hHeld hb) (fun hHeld2 => ?_)
          clear hK K hHeld hb
          have hHeld := hHeld2
          clear hHeld2
          try simp only [Act.put, List.setIfInBounds_toArray, List.set_cons_zero, List.set_cons_succ]
          refine wpAnyH_take (i := 1) (v := ?_) rfl (by kernel_rfl) (by kernel_rfl) (by kernel_rfl) (fun _ _ _ h => h) (Or.inl ⟨by rfl, ?_⟩) (by assumption) ?_
          rotate_left
          · intro w hSw
            go_simp
            try with_reducible rfl
          try simp only [Act.put, List.setIfInBounds_toArray, List.set_cons_zero, List.set_cons_succ]
          refine wpAnyH_take (i := 2) (v := ?_) rfl (by kernel_rfl) (by kernel_rfl) (by kernel_rfl) (fun _ _ _ h => h) (Or.inl ⟨by rfl, ?_⟩) (by assumption) ?_
          rotate_left
          · intro w hSw
            go_simp
            try with_reducible rfl
          try simp only [Act.put, List.setIfInBounds_toArray, List.set_cons_zero, List.set_cons_succ]
          refine wpAnyH_take (i := 3) (v := ?_) rfl (by kernel_rfl) (by kernel_rfl) (by kernel_rfl) (fun _ _ _ h => h) (Or.inl ⟨by rfl, ?_⟩) (by assumption) ?_
          rotate_left
          · intro w hSw
            go_simp
            try with_reducible rfl
          try simp only [Act.put, List.setIfInBounds_toArray, List.set_cons_zero, List.set_cons_succ]
          refine wpAnyH_take (i := 4) (v := ?_) rfl (by kernel_rfl) (by kernel_rfl) (by kernel_rfl) (fun _ _ _ h => h) (Or.inl ⟨by rfl, ?_⟩) (by assumption) ?_
          rotate_left
          · intro w hSw
            go_simp
            try with_reducible rfl
          try simp only [Act.put, List.setIfInBounds_toArray, List.set_cons_zero, List.set_cons_succ]
          refine wpAnyH_take (i := 5) (v := ?_) rfl (by kernel_rfl) (by kernel_rfl) (by kernel_rfl) (fun _ _ _ h => h) (Or.inl ⟨by rfl, ?_⟩) (by assumption) ?_
          rotate_left
          · intro w hSw
            go_simp
            try with_reducible rfl
          try simp only [Act.put, List.setIfInBounds_toArray, List.set_cons_zero, List.set_cons_succ]
          refine wpAnyH_take (i := 6) (v := ?_) rfl (by kernel_rfl) (by kernel_rfl) (by kernel_rfl) (fun _ _ _ h => h) (Or.inl ⟨by rfl, ?_⟩) (by assumption) ?_
          rotate_left
          · intro w hSw
            go_simp
            try with_reducible rfl
          try simp only [Act.put, List.setIfInBounds_toArray, List.set_cons_zero, List.set_cons_succ]
          refine wpAnyH_take (i := 7) (v := ?_) rfl (by kernel_rfl) (by kernel_rfl) (by kernel_rfl) (fun _ _ _ h => h) (Or.inl ⟨by rfl, ?_⟩) (by assumption) ?_
          rotate_left
          · intro w hSw
            go_simp
            try with_reducible rfl
          try simp only [Act.put, List.setIfInBounds_toArray, List.set_cons_zero, List.set_cons_succ]
          refine wpAnyH_ready (rs := [8]) (by kernel_rfl) (by simp) ?_
          refine AllReadyH.cons rfl (fun K hK => ?_) AllReadyH.nil
          go_simp
          go_fit (frest6 (G.below (KB9.out _ hHeld)) fX)
          rintro e w' ⟨n0, n1, n2, n3, n4, n5, rfl, fN, hv, hb⟩
          have eq : [v0, v1, v2, v3, v4, v5] = [n0, n1, n2, n3, n4, n5] := v64_inj _ _ rfl fV fN (HW.out.trans hv.symm)
          simp only [List.cons.injEq, and_true] at eq
          obtain ⟨rfl, rfl, rfl, rfl, rfl, rfl⟩ := eq
          have qa := eql_same v0 v1 v2 v3 v4 v5
          clear hv
          try simp only []
          refine hK.out _ _ (KL9.out _ _ hHeld hb) (fun hHeld2 => ?_)
          clear hK K hHeld hb
          have hHeld := hHeld2
          clear hHeld2
          try simp only [Act.put, List.setIfInBounds_toArray, List.set_cons_zero, List.set_cons_succ]
          refine wpAnyH_take (i := 9) (v := ?_) rfl (by kernel_rfl) (by kernel_rfl) (by kernel_rfl) (fun _ _ _ h => h) (Or.inl ⟨by rfl, ?_⟩) (by assumption) ?_
          rotate_left
          · intro w hSw
            go_simp
            try with_reducible rfl
          try simp only [Act.put, List.setIfInBounds_toArray, List.set_cons_zero, List.set_cons_succ]
          refine wpAnyH_take (i := 10) (v := ?_) rfl (by kernel_rfl) (by kernel_rfl) (by kernel_rfl) (fun _ _ _ h => h) (Or.inl ⟨by rfl, ?_⟩) (by assumption) ?_
          rotate_left
          · intro w hSw
            go_simp
            try with_reducible rfl
          try simp only [Act.put, List.setIfInBounds_toArray, List.set_cons_zero, List.set_cons_succ]
          refine wpAnyH_take (i := 11) (v := undef) rfl (by kernel_rfl) (by kernel_rfl) (by kernel_rfl) (fun _ _ _ h => h) (Or.inr ⟨by rfl, rfl⟩) (by assumption) ?_
          try simp only [Act.put, List.setIfInBounds_toArray, List.set_cons_zero, List.set_cons_succ]
          refine wpAnyH_take (i := 12) (v := undef) rfl (by kernel_rfl) (by kernel_rfl) (by kernel_rfl) (fun _ _ _ h => h) (Or.inr ⟨by rfl, rfl⟩) (by assumption) ?_
          try simp only [Act.put, List.setIfInBounds_toArray, List.set_cons_zero, List.set_cons_succ]
          refine wpAnyH_ready (rs := [13]) (by kernel_rfl) (by simp) ?_
          refine AllReadyH.cons rfl (fun K hK => ?_) AllReadyH.nil
          go_simp
          refine hK.out _ _ hHeld (fun hHeld2 => ?_)
          clear hK K hHeld
          have hHeld := hHeld2
          clear hHeld2
          try simp only [Act.put, List.setIfInBounds_toArray, List.set_cons_zero, List.set_cons_succ]
          refine wpAnyH_take (i := 14) (v := undef) rfl (by kernel_rfl) (by kernel_rfl) (by kernel_rfl) (fun _ _ _ h => h) (Or.inr ⟨by rfl, rfl⟩) (by assumption) ?_
          try simp only [Act.put, List.setIfInBounds_toArray, List.set_cons_zero, List.set_cons_succ]
          refine wpAnyH_take (i := 15) (v := ?_) rfl (by kernel_rfl) (by kernel_rfl) (by kernel_rfl) (fun _ _ _ h => h) (Or.inl ⟨by rfl, ?_⟩) (by assumption) ?_
          rotate_left
          · intro w hSw
            go_simp
            try with_reducible rfl
          try simp only [Act.put, List.setIfInBounds_toArray, List.set_cons_zero, List.set_cons_succ]
          refine wpAnyH_ready (rs := [16]) (by kernel_rfl) (by simp) ?_
          refine AllReadyH.cons rfl (fun K hK => ?_) AllReadyH.nil
          go_simp
          refine hK.out _ _ hHeld (fun hHeld2 => ?_)
          clear hK K hHeld
          have hHeld := hHeld2
          clear hHeld2
          try simp only [Act.put, List.setIfInBounds_toArray, List.set_cons_zero, List.set_cons_succ]
          refine wpAnyH_ready (rs := [17]) (by kernel_rfl) (by simp) ?_
          refine AllReadyH.cons rfl (fun K hK => ?_) AllReadyH.nil
          go_simp
          refine hK.out _ _ hHeld (fun hHeld2 => ?_)
          clear hK K hHeld
          have hHeld := hHeld2
          clear hHeld2
          try simp only [Act.put, List.setIfInBounds_toArray, List.set_cons_zero, List.set_cons_succ]
          refine wpAnyH_done (by kernel_rfl) ?_ _
          refine NoPanic.normal ?_
          go_wp2_with fail
          go_ret
          exact ⟨rfl, KB9.out _ hHeld⟩
        · have HW : Hid _ := hsame
          have HZ : Hid _ := HPM.out.resolve_left hsame
          clear hsame HPM
          go_wp2_with fail
          refine wp_region_noPanic ?_
          refine wp_region_held_drew (S := Hd S9) (by kernel_rfl) (KD9.out _ hS9) (fun hHeld => ?_)
          clear hS9
          refine wpAnyH_ready (rs := [0]) (by kernel_rfl) (by simp) ?_
          refine AllReadyH.cons rfl (fun K hK => ?_) AllReadyH.nil
          go_simp
          go_fit (two_any (G.below (KB9.out _ hHeld)))
          rintro e w' ⟨rfl, hb⟩
          try simp only []
          refine hK.out _ _ (KL9.out _ _ hHeld hb) (fun hHeld2 => ?_)
          clear hK K hHeld hb
          have hHeld := hHeld2
          clear hHeld2
          try simp only [Act.put, List.setIfInBounds_toArray, List.set_cons_zero, List.set_cons_succ]
          refine wpAnyH_take (i := 1) (v := ?_) rfl (by kernel_rfl) (by kernel_rfl) (by kernel_rfl) (fun _ _ _ h => h) (Or.inl ⟨by rfl, ?_⟩) (by assumption) ?_
          rotate_left
          · intro w hSw
            go_simp
            try with_reducible rfl
          try simp only [Act.put, List.setIfInBounds_toArray, List.set_cons_zero, List.set_cons_succ]
          refine wpAnyH_take (i := 2) (v := ?_) rfl (by kernel_rfl) (by kernel_rfl) (by kernel_rfl) (fun _ _ _ h => h) (Or.inl ⟨by rfl, ?_⟩) (by assumption) ?_
          rotate_left
          · intro w hSw
            go_simp
            try with_reducible rfl
          try simp only [Act.put, List.setIfInBounds_toArray, List.set_cons_zero, List.set_cons_succ]
          refine wpAnyH_take (i := 3) (v := ?_) rfl (by kernel_rfl) (by kernel_rfl) (by kernel_rfl) (fun _ _ _ h => h) (Or.inl ⟨by rfl, ?_⟩) (by assumption) ?_
          rotate_left
          · intro w hSw
            go_simp
            try with_reducible rfl
          try simp only [Act.put, List.setIfInBounds_toArray, List.set_cons_zero, List.set_cons_succ]
          refine wpAnyH_take (i := 4) (v := ?_) rfl (by kernel_rfl) (by kernel_rfl) (by kernel_rfl) (fun _ _ _ h => h) (Or.inl ⟨by rfl, ?_⟩) (by assumption) ?_
          rotate_left
          · intro w hSw
            go_simp
            try with_reducible rfl
          try simp only [Act.put, List.setIfInBounds_toArray, List.set_cons_zero, List.set_cons_succ]
          refine wpAnyH_take (i := 5) (v := ?_) rfl (by kernel_rfl) (by kernel_rfl) (by kernel_rfl) (fun _ _ _ h => h) (Or.inl ⟨by rfl, ?_⟩) (by assumption) ?_
          rotate_left
          · intro w hSw
            go_simp
            try with_reducible rfl
          try simp only [Act.put, List.setIfInBounds_toArray, List.set_cons_zero, List.set_cons_succ]
          refine wpAnyH_take (i := 6) (v := ?_) rfl (by kernel_rfl) (by kernel_rfl) (by kernel_rfl) (fun _ _ _ h => h) (Or.inl ⟨by rfl, ?_⟩) (by assumption) ?_
          rotate_left
          · intro w hSw
            go_simp
            try with_reducible rfl
          try simp only [Act.put, List.setIfInBounds_toArray, List.set_cons_zero, List.set_cons_succ]
          refine wpAnyH_take (i := 7) (v := ?_) rfl (by kernel_rfl) (by kernel_rfl) (by kernel_rfl) (fun _ _ _ h => h) (Or.inl ⟨by rfl, ?_⟩) (by assumption) ?_
          rotate_left
          · intro w hSw
            go_simp
            try with_reducible rfl
          try simp only [Act.put, List.setIfInBounds_toArray, List.set_cons_zero, List.set_cons_succ]
          refine wpAnyH_ready (rs := [8]) (by kernel_rfl) (by simp) ?_
          refine AllReadyH.cons rfl (fun K hK => ?_) AllReadyH.nil
          go_simp
          go_fit (frest6 (G.below (KB9.out _ hHeld)) fX)
          rintro e w' ⟨n0, n1, n2, n3, n4, n5, rfl, fN, hv, hb⟩
          have qn := eql_not (show [v0, v1, v2, v3, v4, v5] ≠ [n0, n1, n2, n3, n4, n5] from fun h => HW.out (by rw [h]; exact hv))
          clear hv
          try simp only []
          refine hK.out _ _ (KL9.out _ _ hHeld hb) (fun hHeld2 => ?_)
          clear hK K hHeld hb
          have hHeld := hHeld2
          clear hHeld2
          try simp only [Act.put, List.setIfInBounds_toArray, List.set_cons_zero, List.set_cons_succ]
          refine wpAnyH_take (i := 9) (v := ?_) rfl (by kernel_rfl) (by kernel_rfl) (by kernel_rfl) (fun _ _ _ h => h) (Or.inl ⟨by rfl, ?_⟩) (by assumption) ?_
          rotate_left
          · intro w hSw
            go_simp
            try with_reducible rfl
          try simp only [Act.put, List.setIfInBounds_toArray, List.set_cons_zero, List.set_cons_succ]
          refine wpAnyH_take (i := 10) (v := ?_) rfl (by kernel_rfl) (by kernel_rfl) (by kernel_rfl) (fun _ _ _ h => h) (Or.inl ⟨by rfl, ?_⟩) (by assumption) ?_
          rotate_left
          · intro w hSw
            go_simp
            try with_reducible rfl
          try simp only [Act.put, List.setIfInBounds_toArray, List.set_cons_zero, List.set_cons_succ]
          refine wpAnyH_take (i := 11) (v := ?_) rfl (by kernel_rfl) (by kernel_rfl) (by kernel_rfl) (fun _ _ _ h => h) (Or.inl ⟨by rfl, ?_⟩) (by assumption) ?_
          rotate_left
          · intro w hSw
            go_simp
            try with_reducible rfl
          try simp only [Act.put, List.setIfInBounds_toArray, List.set_cons_zero, List.set_cons_succ]
          refine wpAnyH_take (i := 12) (v := ?_) rfl (by kernel_rfl) (by kernel_rfl) (by kernel_rfl) (fun _ _ _ h => h) (Or.inl ⟨by rfl, ?_⟩) (by assumption) ?_
          rotate_left
          · intro w hSw
            go_simp
            try with_reducible rfl
          try simp only [Act.put, List.setIfInBounds_toArray, List.set_cons_zero, List.set_cons_succ]
          refine wpAnyH_ready (rs := [13]) (by kernel_rfl) (by simp) ?_
          refine AllReadyH.cons rfl (fun K hK => ?_) AllReadyH.nil
          go_simp
          go_fit (fneg6 (G.below (KB9.out _ hHeld)) fX)
          rintro e w' ⟨q0, q1, q2, q3, q4, q5, rfl, fQ, hv, hb⟩
          have eq : [v0, v1, v2, v3, v4, v5] = [q0, q1, q2, q3, q4, q5] := v64_inj _ _ rfl fV fQ (HZ.out.trans hv.symm)
          simp only [List.cons.injEq, and_true] at eq
          obtain ⟨rfl, rfl, rfl, rfl, rfl, rfl⟩ := eq
          have qa := eql_same v0 v1 v2 v3 v4 v5
          clear hv
          try simp only []
          refine hK.out _ _ (KL9.out _ _ hHeld hb) (fun hHeld2 => ?_)
          clear hK K hHeld hb
          have hHeld := hHeld2
          clear hHeld2
          try simp only [Act.put, List.setIfInBounds_toArray, List.set_cons_zero, List.set_cons_succ]
          refine wpAnyH_take (i := 14) (v := ?_) rfl (by kernel_rfl) (by kernel_rfl) (by kernel_rfl) (fun _ _ _ h => h) (Or.inl ⟨by rfl, ?_⟩) (by assumption) ?_
          rotate_left
          · intro w hSw
            go_simp
            try with_reducible rfl
          try simp only [Act.put, List.setIfInBounds_toArray, List.set_cons_zero, List.set_cons_succ]
          refine wpAnyH_take (i := 15) (v := ?_) rfl (by kernel_rfl) (by kernel_rfl) (by kernel_rfl) (fun _ _ _ h => h) (Or.inl ⟨by rfl, ?_⟩) (by assumption) ?_
          rotate_left
          · intro w hSw
            go_simp
            try with_reducible rfl
          try simp only [Act.put, List.setIfInBounds_toArray, List.set_cons_zero, List.set_cons_succ]
          refine wpAnyH_ready (rs := [16]) (by kernel_rfl) (by simp) ?_
          refine AllReadyH.cons rfl (fun K hK => ?_) AllReadyH.nil
          go_simp
          refine hK.out _ _ hHeld (fun hHeld2 => ?_)
          clear hK K hHeld
          have hHeld := hHeld2
          clear hHeld2
          try simp only [Act.put, List.setIfInBounds_toArray, List.set_cons_zero, List.set_cons_succ]
          refine wpAnyH_ready (rs := [17]) (by kernel_rfl) (by simp) ?_
          refine AllReadyH.cons rfl (fun K hK => ?_) AllReadyH.nil
          go_simp
          refine hK.out _ _ hHeld (fun hHeld2 => ?_)
          clear hK K hHeld
          have hHeld := hHeld2
          clear hHeld2
          try simp only [Act.put, List.setIfInBounds_toArray, List.set_cons_zero, List.set_cons_succ]
          refine wpAnyH_done (by kernel_rfl) ?_ _
          refine NoPanic.normal ?_
          go_wp2_with fail
          go_ret
          exact ⟨rfl, KB9.out _ hHeld⟩
end Go.Proofs.YtnhjaldifpiaiaaDoor
