/- The law ShaSteps answers true: any block's step from any words, or that it is no block; the words at first. -/
import Derived.Test.YtlikglabnfblcaaDoorRows
import Derived.Test.YtlikglabnfblcaaDoorSLaw
import Derived.Deep.WholeRow
import Derived.Deep.RegionHeld3
import Derived.Deep.DeepCutAuto
import Derived.Deep.DeepFit
namespace Go.Proofs.YtlikglabnfblcaaDoor
open Go.RowKit

set_option linter.unusedSimpArgs false in
set_option maxRecDepth 100000 in
set_option maxHeartbeats 2000000 in
theorem steps_ok {h0 h1 h2 h3 h4 h5 h6 h7 : Int} {v : Value} {B : List Int} {w : World} (G : GlsS w) (fH : fits [h0, h1, h2, h3, h4, h5, h6, h7]) (hv : Bs w v B) (hB : byt B) (l : B.length = 128) :
    Calls Tryd.prog 3 #[.agg #[.int .u64 h0, .int .u64 h1, .int .u64 h2, .int .u64 h3, .int .u64 h4, .int .u64 h5, .int .u64 h6, .int .u64 h7], v] w fun e w' => e = .returned (.bool true) ∧ Below w.heap.size w w' := by
  have HL : Hid (B.length = 128) := l
  have HB : Hid (byt B) := hB
  clear l hB
  obtain ⟨y0, y1, y2, y3, y4, y5, y6, y7, hy⟩ := eight (stepN_len KS [h0, h1, h2, h3, h4, h5, h6, h7] B)
  have HY : Hid (stepN KS [h0, h1, h2, h3, h4, h5, h6, h7] B = [y0, y1, y2, y3, y4, y5, y6, y7]) := hy
  clear hy
  have hv0 := hv
  obtain ⟨ao, cap, rfl, c1, c2, c3⟩ := hv0
  clear c3
  unfold maxLen at c1
  have B0 := Blk.new w [.int .u64 h0, .int .u64 h1, .int .u64 h2, .int .u64 h3, .int .u64 h4, .int .u64 h5, .int .u64 h6, .int .u64 h7] 23 (w.heap.size) rfl
  have bel : Below w.heap.size w (w.alloc (.cells [.int .u64 h0, .int .u64 h1, .int .u64 h2, .int .u64 h3, .int .u64 h4, .int .u64 h5, .int .u64 h6, .int .u64 h7].toArray 23)) := ((Below.refl _ _).alloc (Nat.le_refl _) _)
  go_enter Tryd.func3, Tryd.ntmps3
  go_upto_region 1 with fail
  try simp only [us, List.map_cons, List.map_nil] at bel
  generalize (w.alloc (Obj.cells #[.int .u64 h0, .int .u64 h1, .int .u64 h2, .int .u64 h3, .int .u64 h4, .int .u64 h5, .int .u64 h6, .int .u64 h7] 23)) = W at *
  have Bh := B0
  clear B0
  replace hv := hv.later bel
  go_wp2_with fail
  refine (r7_MadeL).mono ?_
  rintro e w1 ⟨kb, kc, rfl, HK, hb⟩
  replace Bh := Bh.later hb
  replace hv := hv.later hb
  replace bel := below_step bel hb
  clear hb
  replace Bh := Bh.alloc (.cells [.slice (some ⟨kb, 0, none⟩) 80 kc, .int .u64 14680500436340154072, .int .u64 7105036623409894663, .int .u64 10473403895298186519, .int .u64 1526699215303891257, .int .u64 7436329637833083697, .int .u64 10282925794625328401, .int .u64 15784041429090275239, .int .u64 5167115440072839076].toArray 27)
  replace hv := hv.alloc (.cells [.slice (some ⟨kb, 0, none⟩) 80 kc, .int .u64 14680500436340154072, .int .u64 7105036623409894663, .int .u64 10473403895298186519, .int .u64 1526699215303891257, .int .u64 7436329637833083697, .int .u64 10282925794625328401, .int .u64 15784041429090275239, .int .u64 5167115440072839076].toArray 27)
  replace HK := HK.alloc (.cells [.slice (some ⟨kb, 0, none⟩) 80 kc, .int .u64 14680500436340154072, .int .u64 7105036623409894663, .int .u64 10473403895298186519, .int .u64 1526699215303891257, .int .u64 7436329637833083697, .int .u64 10282925794625328401, .int .u64 15784041429090275239, .int .u64 5167115440072839076].toArray 27)
  have Bt := Blk.new w1 [.slice (some ⟨kb, 0, none⟩) 80 kc, .int .u64 14680500436340154072, .int .u64 7105036623409894663, .int .u64 10473403895298186519, .int .u64 1526699215303891257, .int .u64 7436329637833083697, .int .u64 10282925794625328401, .int .u64 15784041429090275239, .int .u64 5167115440072839076] 27 w1.heap.size rfl
  replace bel := below_alloc (o := .cells [.slice (some ⟨kb, 0, none⟩) 80 kc, .int .u64 14680500436340154072, .int .u64 7105036623409894663, .int .u64 10473403895298186519, .int .u64 1526699215303891257, .int .u64 7436329637833083697, .int .u64 10282925794625328401, .int .u64 15784041429090275239, .int .u64 5167115440072839076].toArray 27) bel
  have lwt : ∀ z, z < w1.heap.size → z ≠ w1.heap.size := fun z h => Nat.ne_of_lt h
  have lth := Bh.lt
  have ch0 := Bh.cell 0 _ rfl
  have ch1 := Bh.cell 1 _ rfl
  have ch2 := Bh.cell 2 _ rfl
  have ch3 := Bh.cell 3 _ rfl
  have ch4 := Bh.cell 4 _ rfl
  have ch5 := Bh.cell 5 _ rfl
  have ch6 := Bh.cell 6 _ rfl
  have ch7 := Bh.cell 7 _ rfl
  go_wp2_with fail
  obtain ⟨bt, hbt⟩ : ∃ b, b = w1.heap.size := ⟨_, rfl⟩
  clear lwt
  generalize w1.alloc (Obj.cells #[.slice (some ⟨kb, 0, none⟩) 80 kc, .int .u64 14680500436340154072, .int .u64 7105036623409894663, .int .u64 10473403895298186519, .int .u64 1526699215303891257, .int .u64 7436329637833083697, .int .u64 10282925794625328401, .int .u64 15784041429090275239, .int .u64 5167115440072839076] 27) = Wt at *
  rw [← hbt] at Bt ⊢
  clear hbt
  refine (con_StepL (G.below bel) fH hv HB.out HL.out HY.out).mono ?_
  rintro e w2 ⟨rfl, hb⟩
  clear lth ch0 ch1 ch2 ch3 ch4 ch5 ch6 ch7
  replace Bh := Bh.later hb
  replace Bt := Bt.later hb
  replace hv := hv.later hb
  replace HK := HK.later hb
  replace bel := below_step bel hb
  clear hb
  replace Bh := Bh.alloc (.cells [.int .u64 y0, .int .u64 y1, .int .u64 y2, .int .u64 y3, .int .u64 y4, .int .u64 y5, .int .u64 y6, .int .u64 y7].toArray 23)
  replace Bt := Bt.alloc (.cells [.int .u64 y0, .int .u64 y1, .int .u64 y2, .int .u64 y3, .int .u64 y4, .int .u64 y5, .int .u64 y6, .int .u64 y7].toArray 23)
  replace hv := hv.alloc (.cells [.int .u64 y0, .int .u64 y1, .int .u64 y2, .int .u64 y3, .int .u64 y4, .int .u64 y5, .int .u64 y6, .int .u64 y7].toArray 23)
  replace HK := HK.alloc (.cells [.int .u64 y0, .int .u64 y1, .int .u64 y2, .int .u64 y3, .int .u64 y4, .int .u64 y5, .int .u64 y6, .int .u64 y7].toArray 23)
  have Bv := Blk.new w2 [.int .u64 y0, .int .u64 y1, .int .u64 y2, .int .u64 y3, .int .u64 y4, .int .u64 y5, .int .u64 y6, .int .u64 y7] 23 w2.heap.size rfl
  replace bel := below_alloc (o := .cells [.int .u64 y0, .int .u64 y1, .int .u64 y2, .int .u64 y3, .int .u64 y4, .int .u64 y5, .int .u64 y6, .int .u64 y7].toArray 23) bel
  have lwv : ∀ z, z < w2.heap.size → z ≠ w2.heap.size := fun z h => Nat.ne_of_lt h
  go_upto_region 3 with fail
  obtain ⟨bv, hbv⟩ : ∃ b, b = w2.heap.size := ⟨_, rfl⟩
  clear lwv
  generalize w2.alloc (Obj.cells #[.int .u64 y0, .int .u64 y1, .int .u64 y2, .int .u64 y3, .int .u64 y4, .int .u64 y5, .int .u64 y6, .int .u64 y7] 23) = Wv at *
  rw [← hbv] at Bv ⊢
  clear hbv
  have q2 := eql_8s 14680500436340154072 7105036623409894663 10473403895298186519 1526699215303891257 7436329637833083697 10282925794625328401 15784041429090275239 5167115440072839076
  have hvv := hv
  have hkk := HK
  obtain ⟨S1, hS1, KL1, KA1, KD1, KS1, KQ1, KN1, KB1, KM1, KR1⟩ := held3 (w0 := w) (W := _) [(w.heap.size, [.int .u64 h0, .int .u64 h1, .int .u64 h2, .int .u64 h3, .int .u64 h4, .int .u64 h5, .int .u64 h6, .int .u64 h7]), (bt, [.slice (some ⟨kb, 0, none⟩) 80 kc, .int .u64 14680500436340154072, .int .u64 7105036623409894663, .int .u64 10473403895298186519, .int .u64 1526699215303891257, .int .u64 7436329637833083697, .int .u64 10282925794625328401, .int .u64 15784041429090275239, .int .u64 5167115440072839076]), (bv, [.int .u64 y0, .int .u64 y1, .int .u64 y2, .int .u64 y3, .int .u64 y4, .int .u64 y5, .int .u64 y6, .int .u64 y7])] (by
    intro b X h
    simp only [List.mem_cons, List.not_mem_nil, or_false, Prod.mk.injEq] at h
    rcases h with ⟨rfl, rfl⟩ | ⟨rfl, rfl⟩ | ⟨rfl, rfl⟩
    · exact Bh
    · exact Bt
    · exact Bv) bel
  have kb1a : ∀ wx, Hd S1 wx → Blk wx (w.heap.size) [.int .u64 h0, .int .u64 h1, .int .u64 h2, .int .u64 h3, .int .u64 h4, .int .u64 h5, .int .u64 h6, .int .u64 h7] := fun wx h => KM1.out wx _ _ h (by simp)
  have c1a0 := rulec kb1a 0 _ rfl
  have c1a1 := rulec kb1a 1 _ rfl
  have c1a2 := rulec kb1a 2 _ rfl
  have c1a3 := rulec kb1a 3 _ rfl
  have c1a4 := rulec kb1a 4 _ rfl
  have c1a5 := rulec kb1a 5 _ rfl
  have c1a6 := rulec kb1a 6 _ rfl
  have c1a7 := rulec kb1a 7 _ rfl
  have c1al := ruleb kb1a
  clear kb1a
  have kb1b : ∀ wx, Hd S1 wx → Blk wx (bt) [.slice (some ⟨kb, 0, none⟩) 80 kc, .int .u64 14680500436340154072, .int .u64 7105036623409894663, .int .u64 10473403895298186519, .int .u64 1526699215303891257, .int .u64 7436329637833083697, .int .u64 10282925794625328401, .int .u64 15784041429090275239, .int .u64 5167115440072839076] := fun wx h => KM1.out wx _ _ h (by simp)
  have c1b0 := rulec kb1b 0 _ rfl
  have c1b1 := rulec kb1b 1 _ rfl
  have c1b2 := rulec kb1b 2 _ rfl
  have c1b3 := rulec kb1b 3 _ rfl
  have c1b4 := rulec kb1b 4 _ rfl
  have c1b5 := rulec kb1b 5 _ rfl
  have c1b6 := rulec kb1b 6 _ rfl
  have c1b7 := rulec kb1b 7 _ rfl
  have c1b8 := rulec kb1b 8 _ rfl
  have c1bl := ruleb kb1b
  clear kb1b
  have kb1c : ∀ wx, Hd S1 wx → Blk wx (bv) [.int .u64 y0, .int .u64 y1, .int .u64 y2, .int .u64 y3, .int .u64 y4, .int .u64 y5, .int .u64 y6, .int .u64 y7] := fun wx h => KM1.out wx _ _ h (by simp)
  have c1c0 := rulec kb1c 0 _ rfl
  have c1c1 := rulec kb1c 1 _ rfl
  have c1c2 := rulec kb1c 2 _ rfl
  have c1c3 := rulec kb1c 3 _ rfl
  have c1c4 := rulec kb1c 4 _ rfl
  have c1c5 := rulec kb1c 5 _ rfl
  have c1c6 := rulec kb1c 6 _ rfl
  have c1c7 := rulec kb1c 7 _ rfl
  have c1cl := ruleb kb1c
  clear kb1c
  have hN1 := bel.size
  clear Bh Bt Bv
  go_cut [18] (fun u wx => u = .bool false ∧ Hd S1 wx ∧ Below Wv.heap.size Wv wx)
  case first =>
    go_region_held3 (Hd S1)
      (first
        | with_reducible exact KL1.out _ _ (by assumption) hb
        | with_reducible exact KA1.out _ _ (by assumption)
        | with_reducible exact KS1.out _ _ _ (by omega) (by assumption)
        | with_reducible exact KD1.out _ hS1
        | with_reducible exact KD1.out _ (KA1.out _ _ hS1)
        | with_reducible assumption)
      (first
        | (go_at_call 8; go_fit (con_BeginL (G.below (KB1.out _ (by first | with_reducible assumption | with_reducible exact KD1.out _ (by assumption))))); rintro e w' ⟨rfl, hb⟩; have hbb := hb))
    all_goals
      go_wp2_with fail
      go_meet
      exact ⟨rfl, by with_reducible assumption, un_drew hbb⟩
  case rest =>
    clear hS1
    obtain ⟨rfl, hS1, hbw⟩ := hcut
    replace hv := hvv.later hbw
    replace HK := hkk.later hbw
    clear hvv hkk hbw q2
    have h128 : ((B.length : Nat) : Int) = 128 := by have := HL.out; omega
    have q1 := nil_eq
    have q4 := eql_8s y0 y1 y2 y3 y4 y5 y6 y7
    go_upto_region 7 with fail
    refine wp_region_noPanic ?_
    refine wp_region_held_drew (S := Hd S1) (by kernel_rfl) (KD1.out _ hS1) (fun hHeld => ?_)
    clear hS1
    have hvd : Bs wc.drew _ B := hv
    have HKd : KAt wc.drew kb := HK
    generalize World.drew _ = wd at *
    refine wpAnyH_take (i := 0) (v := ?_) rfl (by kernel_rfl) (by kernel_rfl) (by kernel_rfl) (fun _ _ _ h => h) (Or.inl ⟨by kernel_rfl, ?_⟩) (by assumption) ?_
    rotate_left
    · intro w hSw
      go_simp
      with_reducible rfl
    try simp only [Act.put, List.setIfInBounds_toArray, List.set_cons_zero, List.set_cons_succ]
    refine wpAnyH_take (i := 1) (v := ?_) rfl (by kernel_rfl) (by kernel_rfl) (by kernel_rfl) (fun _ _ _ h => h) (Or.inl ⟨by kernel_rfl, ?_⟩) (by assumption) ?_
    rotate_left
    · intro w hSw
      go_simp
      with_reducible rfl
    try simp only [Act.put, List.setIfInBounds_toArray, List.set_cons_zero, List.set_cons_succ]
    refine wpAnyH_take (i := 2) (v := ?_) rfl (by kernel_rfl) (by kernel_rfl) (by kernel_rfl) (fun _ _ _ h => h) (Or.inl ⟨by kernel_rfl, ?_⟩) (by assumption) ?_
    rotate_left
    · intro w hSw
      go_simp
      with_reducible rfl
    try simp only [Act.put, List.setIfInBounds_toArray, List.set_cons_zero, List.set_cons_succ]
    refine wpAnyH_take (i := 3) (v := ?_) rfl (by kernel_rfl) (by kernel_rfl) (by kernel_rfl) (fun _ _ _ h => h) (Or.inl ⟨by kernel_rfl, ?_⟩) (by assumption) ?_
    rotate_left
    · intro w hSw
      go_simp
      with_reducible rfl
    try simp only [Act.put, List.setIfInBounds_toArray, List.set_cons_zero, List.set_cons_succ]
    refine wpAnyH_take (i := 4) (v := ?_) rfl (by kernel_rfl) (by kernel_rfl) (by kernel_rfl) (fun _ _ _ h => h) (Or.inl ⟨by kernel_rfl, ?_⟩) (by assumption) ?_
    rotate_left
    · intro w hSw
      go_simp
      with_reducible rfl
    try simp only [Act.put, List.setIfInBounds_toArray, List.set_cons_zero, List.set_cons_succ]
    refine wpAnyH_take (i := 5) (v := ?_) rfl (by kernel_rfl) (by kernel_rfl) (by kernel_rfl) (fun _ _ _ h => h) (Or.inl ⟨by kernel_rfl, ?_⟩) (by assumption) ?_
    rotate_left
    · intro w hSw
      go_simp
      with_reducible rfl
    try simp only [Act.put, List.setIfInBounds_toArray, List.set_cons_zero, List.set_cons_succ]
    refine wpAnyH_take (i := 6) (v := ?_) rfl (by kernel_rfl) (by kernel_rfl) (by kernel_rfl) (fun _ _ _ h => h) (Or.inl ⟨by kernel_rfl, ?_⟩) (by assumption) ?_
    rotate_left
    · intro w hSw
      go_simp
      with_reducible rfl
    try simp only [Act.put, List.setIfInBounds_toArray, List.set_cons_zero, List.set_cons_succ]
    refine wpAnyH_ready (rs := [7]) (by kernel_rfl) (by simp) ?_
    refine AllReadyH.cons rfl (fun K hK => ?_) ?_
    · go_simp
      go_fit (r7_StepL HKd hvd HB.out HL.out HY.out)
      rintro e w' ⟨rfl, hb⟩
      refine hK.out _ _ ?_ (fun hHeld2 => ?_)
      · exact KL1.out _ _ hHeld hb
      · clear hK K hHeld
        have hHeld := hHeld2
        clear hHeld2
        try simp only [Act.put, List.setIfInBounds_toArray, List.set_cons_zero, List.set_cons_succ]
        clear hb
        refine wpAnyH_take (i := 8) (v := ?_) rfl (by kernel_rfl) (by kernel_rfl) (by kernel_rfl) (fun _ _ _ h => h) (Or.inl ⟨by kernel_rfl, ?_⟩) (by assumption) ?_
        rotate_left
        · intro w hSw
          go_simp
          with_reducible rfl
        try simp only [Act.put, List.setIfInBounds_toArray, List.set_cons_zero, List.set_cons_succ]
        refine wpAnyH_take (i := 9) (v := ?_) rfl (by kernel_rfl) (by kernel_rfl) (by kernel_rfl) (fun _ _ _ h => h) (Or.inl ⟨by kernel_rfl, ?_⟩) (by assumption) ?_
        rotate_left
        · intro w hSw
          go_simp
          with_reducible rfl
        try simp only [Act.put, List.setIfInBounds_toArray, List.set_cons_zero, List.set_cons_succ]
        refine wpAnyH_ready (rs := [10]) (by kernel_rfl) (by simp) ?_
        refine AllReadyH.cons rfl (fun K hK => ?_) ?_
        · go_simp
          refine hK.out _ _ ?_ (fun hHeld2 => ?_)
          · exact hHeld
          · clear hK K hHeld
            have hHeld := hHeld2
            clear hHeld2
            try simp only [Act.put, List.setIfInBounds_toArray, List.set_cons_zero, List.set_cons_succ]
            refine wpAnyH_done (by kernel_rfl) ?_ _
            refine NoPanic.normal ?_
            go_wp2_with fail
            go_ret
            exact ⟨rfl, KB1.out _ hHeld⟩
        exact AllReadyH.nil
    exact AllReadyH.nil

set_option maxRecDepth 100000 in
set_option maxHeartbeats 2000000 in
theorem steps_bad {h0 h1 h2 h3 h4 h5 h6 h7 : Int} {v : Value} {B : List Int} {w : World} (G : GlsS w) (fH : fits [h0, h1, h2, h3, h4, h5, h6, h7]) (hv : Bs w v B) (l : ¬ B.length = 128) :
    Calls Tryd.prog 3 #[.agg #[.int .u64 h0, .int .u64 h1, .int .u64 h2, .int .u64 h3, .int .u64 h4, .int .u64 h5, .int .u64 h6, .int .u64 h7], v] w fun e w' => e = .returned (.bool true) ∧ Below w.heap.size w w' := by
  have HL : Hid (¬ B.length = 128) := l
  clear l
  have hv0 := hv
  obtain ⟨ao, cap, rfl, c1, c2, c3⟩ := hv0
  clear c3
  unfold maxLen at c1
  have B0 := Blk.new w [.int .u64 h0, .int .u64 h1, .int .u64 h2, .int .u64 h3, .int .u64 h4, .int .u64 h5, .int .u64 h6, .int .u64 h7] 23 (w.heap.size) rfl
  have bel : Below w.heap.size w (w.alloc (.cells [.int .u64 h0, .int .u64 h1, .int .u64 h2, .int .u64 h3, .int .u64 h4, .int .u64 h5, .int .u64 h6, .int .u64 h7].toArray 23)) := ((Below.refl _ _).alloc (Nat.le_refl _) _)
  go_enter Tryd.func3, Tryd.ntmps3
  go_upto_region 1 with fail
  try simp only [us, List.map_cons, List.map_nil] at bel
  generalize (w.alloc (Obj.cells #[.int .u64 h0, .int .u64 h1, .int .u64 h2, .int .u64 h3, .int .u64 h4, .int .u64 h5, .int .u64 h6, .int .u64 h7] 23)) = W at *
  have Bh := B0
  clear B0
  replace hv := hv.later bel
  go_wp2_with fail
  refine (r7_MadeL).mono ?_
  rintro e w1 ⟨kb, kc, rfl, HK, hb⟩
  replace Bh := Bh.later hb
  replace hv := hv.later hb
  replace bel := below_step bel hb
  clear hb
  replace Bh := Bh.alloc (.cells [.slice (some ⟨kb, 0, none⟩) 80 kc, .int .u64 14680500436340154072, .int .u64 7105036623409894663, .int .u64 10473403895298186519, .int .u64 1526699215303891257, .int .u64 7436329637833083697, .int .u64 10282925794625328401, .int .u64 15784041429090275239, .int .u64 5167115440072839076].toArray 27)
  replace hv := hv.alloc (.cells [.slice (some ⟨kb, 0, none⟩) 80 kc, .int .u64 14680500436340154072, .int .u64 7105036623409894663, .int .u64 10473403895298186519, .int .u64 1526699215303891257, .int .u64 7436329637833083697, .int .u64 10282925794625328401, .int .u64 15784041429090275239, .int .u64 5167115440072839076].toArray 27)
  replace HK := HK.alloc (.cells [.slice (some ⟨kb, 0, none⟩) 80 kc, .int .u64 14680500436340154072, .int .u64 7105036623409894663, .int .u64 10473403895298186519, .int .u64 1526699215303891257, .int .u64 7436329637833083697, .int .u64 10282925794625328401, .int .u64 15784041429090275239, .int .u64 5167115440072839076].toArray 27)
  have Bt := Blk.new w1 [.slice (some ⟨kb, 0, none⟩) 80 kc, .int .u64 14680500436340154072, .int .u64 7105036623409894663, .int .u64 10473403895298186519, .int .u64 1526699215303891257, .int .u64 7436329637833083697, .int .u64 10282925794625328401, .int .u64 15784041429090275239, .int .u64 5167115440072839076] 27 w1.heap.size rfl
  replace bel := below_alloc (o := .cells [.slice (some ⟨kb, 0, none⟩) 80 kc, .int .u64 14680500436340154072, .int .u64 7105036623409894663, .int .u64 10473403895298186519, .int .u64 1526699215303891257, .int .u64 7436329637833083697, .int .u64 10282925794625328401, .int .u64 15784041429090275239, .int .u64 5167115440072839076].toArray 27) bel
  have lwt : ∀ z, z < w1.heap.size → z ≠ w1.heap.size := fun z h => Nat.ne_of_lt h
  have lth := Bh.lt
  have ch0 := Bh.cell 0 _ rfl
  have ch1 := Bh.cell 1 _ rfl
  have ch2 := Bh.cell 2 _ rfl
  have ch3 := Bh.cell 3 _ rfl
  have ch4 := Bh.cell 4 _ rfl
  have ch5 := Bh.cell 5 _ rfl
  have ch6 := Bh.cell 6 _ rfl
  have ch7 := Bh.cell 7 _ rfl
  go_wp2_with fail
  obtain ⟨bt, hbt⟩ : ∃ b, b = w1.heap.size := ⟨_, rfl⟩
  clear lwt
  generalize w1.alloc (Obj.cells #[.slice (some ⟨kb, 0, none⟩) 80 kc, .int .u64 14680500436340154072, .int .u64 7105036623409894663, .int .u64 10473403895298186519, .int .u64 1526699215303891257, .int .u64 7436329637833083697, .int .u64 10282925794625328401, .int .u64 15784041429090275239, .int .u64 5167115440072839076] 27) = Wt at *
  rw [← hbt] at Bt ⊢
  clear hbt
  refine (con_StepBad (G.below bel) fH hv HL.out).mono ?_
  rintro e w2 ⟨rfl, hb⟩
  clear lth ch0 ch1 ch2 ch3 ch4 ch5 ch6 ch7
  replace Bh := Bh.later hb
  replace Bt := Bt.later hb
  replace hv := hv.later hb
  replace HK := HK.later hb
  replace bel := below_step bel hb
  clear hb
  replace Bh := Bh.alloc (.cells [.int .u64 0, .int .u64 0, .int .u64 0, .int .u64 0, .int .u64 0, .int .u64 0, .int .u64 0, .int .u64 0].toArray 23)
  replace Bt := Bt.alloc (.cells [.int .u64 0, .int .u64 0, .int .u64 0, .int .u64 0, .int .u64 0, .int .u64 0, .int .u64 0, .int .u64 0].toArray 23)
  replace hv := hv.alloc (.cells [.int .u64 0, .int .u64 0, .int .u64 0, .int .u64 0, .int .u64 0, .int .u64 0, .int .u64 0, .int .u64 0].toArray 23)
  replace HK := HK.alloc (.cells [.int .u64 0, .int .u64 0, .int .u64 0, .int .u64 0, .int .u64 0, .int .u64 0, .int .u64 0, .int .u64 0].toArray 23)
  have Bv := Blk.new w2 [.int .u64 0, .int .u64 0, .int .u64 0, .int .u64 0, .int .u64 0, .int .u64 0, .int .u64 0, .int .u64 0] 23 w2.heap.size rfl
  replace bel := below_alloc (o := .cells [.int .u64 0, .int .u64 0, .int .u64 0, .int .u64 0, .int .u64 0, .int .u64 0, .int .u64 0, .int .u64 0].toArray 23) bel
  have lwv : ∀ z, z < w2.heap.size → z ≠ w2.heap.size := fun z h => Nat.ne_of_lt h
  go_upto_region 3 with fail
  obtain ⟨bv, hbv⟩ : ∃ b, b = w2.heap.size := ⟨_, rfl⟩
  clear lwv
  generalize w2.alloc (Obj.cells #[.int .u64 0, .int .u64 0, .int .u64 0, .int .u64 0, .int .u64 0, .int .u64 0, .int .u64 0, .int .u64 0] 23) = Wv at *
  rw [← hbv] at Bv ⊢
  clear hbv
  have q2 := eql_8s 14680500436340154072 7105036623409894663 10473403895298186519 1526699215303891257 7436329637833083697 10282925794625328401 15784041429090275239 5167115440072839076
  have hvv := hv
  have hkk := HK
  obtain ⟨S1, hS1, KL1, KA1, KD1, KS1, KQ1, KN1, KB1, KM1, KR1⟩ := held3 (w0 := w) (W := _) [(w.heap.size, [.int .u64 h0, .int .u64 h1, .int .u64 h2, .int .u64 h3, .int .u64 h4, .int .u64 h5, .int .u64 h6, .int .u64 h7]), (bt, [.slice (some ⟨kb, 0, none⟩) 80 kc, .int .u64 14680500436340154072, .int .u64 7105036623409894663, .int .u64 10473403895298186519, .int .u64 1526699215303891257, .int .u64 7436329637833083697, .int .u64 10282925794625328401, .int .u64 15784041429090275239, .int .u64 5167115440072839076]), (bv, [.int .u64 0, .int .u64 0, .int .u64 0, .int .u64 0, .int .u64 0, .int .u64 0, .int .u64 0, .int .u64 0])] (by
    intro b X h
    simp only [List.mem_cons, List.not_mem_nil, or_false, Prod.mk.injEq] at h
    rcases h with ⟨rfl, rfl⟩ | ⟨rfl, rfl⟩ | ⟨rfl, rfl⟩
    · exact Bh
    · exact Bt
    · exact Bv) bel
  have kb1a : ∀ wx, Hd S1 wx → Blk wx (w.heap.size) [.int .u64 h0, .int .u64 h1, .int .u64 h2, .int .u64 h3, .int .u64 h4, .int .u64 h5, .int .u64 h6, .int .u64 h7] := fun wx h => KM1.out wx _ _ h (by simp)
  have c1a0 := rulec kb1a 0 _ rfl
  have c1a1 := rulec kb1a 1 _ rfl
  have c1a2 := rulec kb1a 2 _ rfl
  have c1a3 := rulec kb1a 3 _ rfl
  have c1a4 := rulec kb1a 4 _ rfl
  have c1a5 := rulec kb1a 5 _ rfl
  have c1a6 := rulec kb1a 6 _ rfl
  have c1a7 := rulec kb1a 7 _ rfl
  have c1al := ruleb kb1a
  clear kb1a
  have kb1b : ∀ wx, Hd S1 wx → Blk wx (bt) [.slice (some ⟨kb, 0, none⟩) 80 kc, .int .u64 14680500436340154072, .int .u64 7105036623409894663, .int .u64 10473403895298186519, .int .u64 1526699215303891257, .int .u64 7436329637833083697, .int .u64 10282925794625328401, .int .u64 15784041429090275239, .int .u64 5167115440072839076] := fun wx h => KM1.out wx _ _ h (by simp)
  have c1b0 := rulec kb1b 0 _ rfl
  have c1b1 := rulec kb1b 1 _ rfl
  have c1b2 := rulec kb1b 2 _ rfl
  have c1b3 := rulec kb1b 3 _ rfl
  have c1b4 := rulec kb1b 4 _ rfl
  have c1b5 := rulec kb1b 5 _ rfl
  have c1b6 := rulec kb1b 6 _ rfl
  have c1b7 := rulec kb1b 7 _ rfl
  have c1b8 := rulec kb1b 8 _ rfl
  have c1bl := ruleb kb1b
  clear kb1b
  have kb1c : ∀ wx, Hd S1 wx → Blk wx (bv) [.int .u64 0, .int .u64 0, .int .u64 0, .int .u64 0, .int .u64 0, .int .u64 0, .int .u64 0, .int .u64 0] := fun wx h => KM1.out wx _ _ h (by simp)
  have c1c0 := rulec kb1c 0 _ rfl
  have c1c1 := rulec kb1c 1 _ rfl
  have c1c2 := rulec kb1c 2 _ rfl
  have c1c3 := rulec kb1c 3 _ rfl
  have c1c4 := rulec kb1c 4 _ rfl
  have c1c5 := rulec kb1c 5 _ rfl
  have c1c6 := rulec kb1c 6 _ rfl
  have c1c7 := rulec kb1c 7 _ rfl
  have c1cl := ruleb kb1c
  clear kb1c
  have hN1 := bel.size
  clear Bh Bt Bv
  go_cut [18] (fun u wx => u = .bool false ∧ Hd S1 wx ∧ Below Wv.heap.size Wv wx)
  case first =>
    go_region_held3 (Hd S1)
      (first
        | with_reducible exact KL1.out _ _ (by assumption) hb
        | with_reducible exact KA1.out _ _ (by assumption)
        | with_reducible exact KS1.out _ _ _ (by omega) (by assumption)
        | with_reducible exact KD1.out _ hS1
        | with_reducible exact KD1.out _ (KA1.out _ _ hS1)
        | with_reducible assumption)
      (first
        | (go_at_call 8; go_fit (con_BeginL (G.below (KB1.out _ (by first | with_reducible assumption | with_reducible exact KD1.out _ (by assumption))))); rintro e w' ⟨rfl, hb⟩; have hbb := hb))
    all_goals
      go_wp2_with fail
      go_meet
      exact ⟨rfl, by with_reducible assumption, un_drew hbb⟩
  case rest =>
    clear hS1
    obtain ⟨rfl, hS1, hbw⟩ := hcut
    replace hv := hvv.later hbw
    replace HK := hkk.later hbw
    clear hvv hkk hbw q2
    have h128 : ¬ ((B.length : Nat) : Int) = 128 := by have := HL.out; omega
    have q1 := code_eq 1
    have q4 := eql_8s 0 0 0 0 0 0 0 0
    have Bv := KM1.out _ bv _ hS1 (List.Mem.tail _ (List.Mem.tail _ (List.Mem.head _)))
    have ltv := Bv.lt
    have e0 := Bv.cell 0 _ rfl
    have e1 := Bv.cell 1 _ rfl
    have e2 := Bv.cell 2 _ rfl
    have e3 := Bv.cell 3 _ rfl
    have e4 := Bv.cell 4 _ rfl
    have e5 := Bv.cell 5 _ rfl
    have e6 := Bv.cell 6 _ rfl
    have e7 := Bv.cell 7 _ rfl
    go_wp2_with fail
    go_ret
    exact ⟨rfl, KB1.out _ hS1⟩

theorem law_shaSteps (h0 h1 h2 h3 h4 h5 h6 h7 : Int) (v : Value) (B : List Int) (w : World) (G : GlsS w) (fH : fits [h0, h1, h2, h3, h4, h5, h6, h7]) (hv : Bs w v B) (hB : byt B) :
    Calls Tryd.prog 3 #[.agg #[.int .u64 h0, .int .u64 h1, .int .u64 h2, .int .u64 h3, .int .u64 h4, .int .u64 h5, .int .u64 h6, .int .u64 h7], v] w fun e w' => e = .returned (.bool true) ∧ Below w.heap.size w w' := by
  by_cases l : B.length = 128
  · exact steps_ok G fH hv hB l
  · exact steps_bad G fH hv l

end Go.Proofs.YtlikglabnfblcaaDoor
