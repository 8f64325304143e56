/- The law MacHmacs answers true: the digest by any key of any bytes; they stay. -/
import Derived.Test.YtbglkbfnhnmodaaDoorRows
import Derived.Test.YtbglkbfnhnmodaaDoorMcLaw
import Derived.Deep.WholeRow
import Derived.Deep.RegionHeld3
import Derived.Deep.DeepCutAuto
import Derived.Deep.DeepFit
namespace Go.Proofs.YtbglkbfnhnmodaaDoor
open Go.RowKit

set_option linter.unusedSimpArgs false in
set_option maxRecDepth 100000 in
set_option maxHeartbeats 4000000 in
theorem law_macHmacs (kv : Value) (key : List Int) (bv : Value) (b : List Int) (w : World) (G : GlsS w) (hk : Bs w kv key) (bk : byt key) (hb : Bs w bv b) (bb : byt b) :
    Calls Tryd.prog 3 #[kv, bv] w fun e w' => e = .returned (.bool true) ∧ Below w.heap.size w w' := by
  have HG : Hid (GlsS w) := G
  have HKb : Hid (byt key) := bk
  have HBb : Hid (byt b) := bb
  clear G bk bb
  obtain ⟨t0, t1, t2, t3, t4, t5, t6, t7, ht⟩ := eight (show HS.length = 8 from rfl)
  have HT : Hid (HS = [t0, t1, t2, t3, t4, t5, t6, t7]) := ht
  clear ht
  have bel : Below w.heap.size w w := Below.refl _ _
  go_enter Tryd.func3, Tryd.ntmps3
  go_wp2_with fail
  refine (con_cut (n := 2000) rfl hk).mono ?_
  rintro e wz ⟨v1, rfl, hD, hz⟩
  rw [hz]
  clear hz wz
  obtain ⟨D, eD⟩ : ∃ z, key.take 2000 = z := ⟨_, rfl⟩
  rw [eD] at hD
  have bD : Hid (byt D) := by rw [← eD]; exact byt_cutN HKb.out 2000
  have lD : Hid (D.length ≤ 2000) := by rw [← eD]; show _ ≤ _; rw [List.length_take]; omega
  clear eD
  go_wp2_with fail
  refine (con_cut (n := 2000) rfl hb).mono ?_
  rintro e wz ⟨v2, rfl, hE, hz⟩
  rw [hz]
  clear hz wz
  obtain ⟨E, eE⟩ : ∃ z, b.take 2000 = z := ⟨_, rfl⟩
  rw [eE] at hE
  have bE : Hid (byt E) := by rw [← eE]; exact byt_cutN HBb.out 2000
  have lE : Hid (E.length ≤ 2000) := by rw [← eE]; show _ ≤ _; rw [List.length_take]; omega
  clear eE
  clear hk hb
  have ownv3 := own_made w [] 5 0 w.heap.size rfl (Nat.le_refl _) (by decide)
  have hsv3 := hD.later ((Below.refl _ _).alloc (Nat.le_refl _) (.cells #[] 5))
  go_upto_region 4 with (first | (at_builtin; refine wpList_append_bs (by rfl) _ _ (by rfl) w.heap.size _ 0 [] (by rfl) ownv3 _ D (by rfl) hsv3 (by have := lD.out; omega) (by simp) ?_; intro v3 wv3 ownv32 hgrow hat) | fail)
  have hbv3 := below_own (base := w.heap.size) ((Below.refl w.heap.size w).alloc (Nat.le_refl _) (.cells #[] 5)) hgrow (by simp) (fun g hg => own_ge ownv3 hg) (Nat.le_refl _)
  have hv3 := Bs.of_own ownv32
  rw [List.nil_append] at hv3
  replace hD := hD.later hbv3
  replace hE := hE.later hbv3
  replace bel := below_step bel hbv3
  clear hgrow hat ownv3 ownv32 hsv3 hbv3
  have ownv4 := own_made wv3 [] 5 0 wv3.heap.size rfl (Nat.le_refl _) (by decide)
  have hsv4 := hE.later ((Below.refl _ _).alloc (Nat.le_refl _) (.cells #[] 5))
  go_upto_region 5 with (first | (at_builtin; refine wpList_append_bs (by rfl) _ _ (by rfl) wv3.heap.size _ 0 [] (by rfl) ownv4 _ E (by rfl) hsv4 (by have := lE.out; omega) (by simp) ?_; intro v4 wv4 ownv42 hgrow hat) | fail)
  have hbv4 := below_own (base := wv3.heap.size) ((Below.refl wv3.heap.size wv3).alloc (Nat.le_refl _) (.cells #[] 5)) hgrow (by simp) (fun g hg => own_ge ownv4 hg) (Nat.le_refl _)
  have hv4 := Bs.of_own ownv42
  rw [List.nil_append] at hv4
  replace hD := hD.later hbv4
  replace hE := hE.later hbv4
  replace hv3 := hv3.later hbv4
  replace bel := below_step bel hbv4
  clear hgrow hat ownv4 ownv42 hsv4 hbv4
  go_wp2_with fail
  refine (con_Hmac (HG.out.below bel) hv3 bD.out (by have := lD.out; omega) hv4 bE.out (by have := lE.out; omega)).mono ?_
  rintro e w5 ⟨v5, rfl, ⟨O, hO, h5⟩, hbb⟩
  have HO : Hid (HmacIs D E O) := hO
  have l48 : O.length = 48 := hO.ln
  replace hD := hD.later hbb
  replace hE := hE.later hbb
  replace hv3 := hv3.later hbb
  replace hv4 := hv4.later hbb
  replace bel := below_step bel hbb
  clear hbb hO
  obtain ⟨g5, o5, k5, rfl, d1, d2⟩ := h5.form (by omega)
  rw [l48] at h5 d1 ⊢
  unfold maxLen at d2
  go_wp2_with fail
  refine (r7_MadeT HT.out).mono ?_
  rintro e wm ⟨kb, kc, rfl, HK, hbb⟩
  replace hD := hD.later hbb
  replace hE := hE.later hbb
  replace hv3 := hv3.later hbb
  replace hv4 := hv4.later hbb
  replace h5 := h5.later hbb
  replace bel := below_step bel hbb
  clear hbb
  have Bt := Blk.new wm [.slice (some ⟨kb, 0, none⟩) 80 kc, .int .u64 t0, .int .u64 t1, .int .u64 t2, .int .u64 t3, .int .u64 t4, .int .u64 t5, .int .u64 t6, .int .u64 t7] 29 wm.heap.size rfl
  replace hD := hD.later ((Below.refl _ _).alloc (Nat.le_refl _) (.cells #[.slice (some ⟨kb, 0, none⟩) 80 kc, .int .u64 t0, .int .u64 t1, .int .u64 t2, .int .u64 t3, .int .u64 t4, .int .u64 t5, .int .u64 t6, .int .u64 t7] 29))
  replace hE := hE.later ((Below.refl _ _).alloc (Nat.le_refl _) (.cells #[.slice (some ⟨kb, 0, none⟩) 80 kc, .int .u64 t0, .int .u64 t1, .int .u64 t2, .int .u64 t3, .int .u64 t4, .int .u64 t5, .int .u64 t6, .int .u64 t7] 29))
  replace hv3 := hv3.later ((Below.refl _ _).alloc (Nat.le_refl _) (.cells #[.slice (some ⟨kb, 0, none⟩) 80 kc, .int .u64 t0, .int .u64 t1, .int .u64 t2, .int .u64 t3, .int .u64 t4, .int .u64 t5, .int .u64 t6, .int .u64 t7] 29))
  replace hv4 := hv4.later ((Below.refl _ _).alloc (Nat.le_refl _) (.cells #[.slice (some ⟨kb, 0, none⟩) 80 kc, .int .u64 t0, .int .u64 t1, .int .u64 t2, .int .u64 t3, .int .u64 t4, .int .u64 t5, .int .u64 t6, .int .u64 t7] 29))
  replace h5 := h5.later ((Below.refl _ _).alloc (Nat.le_refl _) (.cells #[.slice (some ⟨kb, 0, none⟩) 80 kc, .int .u64 t0, .int .u64 t1, .int .u64 t2, .int .u64 t3, .int .u64 t4, .int .u64 t5, .int .u64 t6, .int .u64 t7] 29))
  replace HK := HK.later ((Below.refl _ _).alloc (Nat.le_refl _) (.cells #[.slice (some ⟨kb, 0, none⟩) 80 kc, .int .u64 t0, .int .u64 t1, .int .u64 t2, .int .u64 t3, .int .u64 t4, .int .u64 t5, .int .u64 t6, .int .u64 t7] 29))
  replace bel := below_alloc (o := .cells #[.slice (some ⟨kb, 0, none⟩) 80 kc, .int .u64 t0, .int .u64 t1, .int .u64 t2, .int .u64 t3, .int .u64 t4, .int .u64 t5, .int .u64 t6, .int .u64 t7] 29) bel
  go_upto_region 7 with fail
  obtain ⟨bt, hbt⟩ : ∃ z, z = wm.heap.size := ⟨_, rfl⟩
  generalize wm.alloc (Obj.cells #[.slice (some ⟨kb, 0, none⟩) 80 kc, .int .u64 t0, .int .u64 t1, .int .u64 t2, .int .u64 t3, .int .u64 t4, .int .u64 t5, .int .u64 t6, .int .u64 t7] 29) = Wt at *
  rw [← hbt] at Bt ⊢
  clear hbt
  obtain ⟨S1, hS1, KL1, KA1, KD1, KS1, KQ1, KN1, KB1, KM1, KR1⟩ := held3 (w0 := Wt) (W := Wt) [(bt, [.slice (some ⟨kb, 0, none⟩) 80 kc, .int .u64 t0, .int .u64 t1, .int .u64 t2, .int .u64 t3, .int .u64 t4, .int .u64 t5, .int .u64 t6, .int .u64 t7])] (by
    intro b X h
    simp only [List.mem_cons, List.not_mem_nil, or_false, Prod.mk.injEq] at h
    obtain ⟨rfl, rfl⟩ := h
    exact Bt) (Below.refl _ _)
  clear KS1 KQ1 KN1 KR1 KA1
  have kb1a : ∀ wx, Hd S1 wx → Blk wx bt [.slice (some ⟨kb, 0, none⟩) 80 kc, .int .u64 t0, .int .u64 t1, .int .u64 t2, .int .u64 t3, .int .u64 t4, .int .u64 t5, .int .u64 t6, .int .u64 t7] := fun wx h => KM1.out wx _ _ h (List.Mem.head _)
  have r0 := rulec kb1a 0 _ rfl
  have r1 := rulec kb1a 1 _ rfl
  have r2 := rulec kb1a 2 _ rfl
  have r3 := rulec kb1a 3 _ rfl
  have r4 := rulec kb1a 4 _ rfl
  have r5 := rulec kb1a 5 _ rfl
  have r6 := rulec kb1a 6 _ rfl
  have r7 := rulec kb1a 7 _ rfl
  have r8 := rulec kb1a 8 _ rfl
  have rl := ruleb kb1a
  clear kb1a
  have x5 : ∀ wx, Hd S1 wx → (convert 22 9 (.slice (some ⟨g5, o5, none⟩) 48 k5)).run Tryd.prog wx = .ok (.string (strOfNums O)) wx := fun wx h => conv_any (h5.later (KB1.out wx h))
  have x1 := fun wx (h : Hd S1 wx) => conv_any (hD.later (KB1.out wx h))
  have x2 := fun wx (h : Hd S1 wx) => conv_any (hE.later (KB1.out wx h))
  have x3 := fun wx (h : Hd S1 wx) => conv_any (hv3.later (KB1.out wx h))
  have x4 := fun wx (h : Hd S1 wx) => conv_any (hv4.later (KB1.out wx h))
  refine wp_region_noPanic ?_
  refine wp_region_held_drew (S := Hd S1) (by kernel_rfl) (KD1.out _ hS1) (fun hHeld => ?_)
  clear hS1
  have hDd : Bs Wt.drew _ D := hD
  have hEd : Bs Wt.drew _ E := hE
  have HKd : KAt Wt.drew kb := HK
  generalize World.drew _ = wd at *
  refine wpAnyH_take (i := 0) (v := ?_) rfl (by kernel_rfl) (by kernel_rfl) (by kernel_rfl) (fun _ _ _ h => h) (Or.inl ⟨by kernel_rfl, ?_⟩) (by assumption) ?_
  rotate_left
  · intro w hSw
    go_simp
    with_reducible rfl
  try simp only [Act.put, List.setIfInBounds_toArray, List.set_cons_zero, List.set_cons_succ]
  refine wpAnyH_take (i := 1) (v := ?_) rfl (by kernel_rfl) (by kernel_rfl) (by kernel_rfl) (fun _ _ _ h => h) (Or.inl ⟨by kernel_rfl, ?_⟩) (by assumption) ?_
  rotate_left
  · intro w hSw
    go_simp
    with_reducible rfl
  try simp only [Act.put, List.setIfInBounds_toArray, List.set_cons_zero, List.set_cons_succ]
  refine wpAnyH_take (i := 2) (v := ?_) rfl (by kernel_rfl) (by kernel_rfl) (by kernel_rfl) (fun _ _ _ h => h) (Or.inl ⟨by kernel_rfl, ?_⟩) (by assumption) ?_
  rotate_left
  · intro w hSw
    go_simp
    with_reducible rfl
  try simp only [Act.put, List.setIfInBounds_toArray, List.set_cons_zero, List.set_cons_succ]
  refine wpAnyH_take (i := 3) (v := ?_) rfl (by kernel_rfl) (by kernel_rfl) (by kernel_rfl) (fun _ _ _ h => h) (Or.inl ⟨by kernel_rfl, ?_⟩) (by assumption) ?_
  rotate_left
  · intro w hSw
    go_simp
    with_reducible rfl
  try simp only [Act.put, List.setIfInBounds_toArray, List.set_cons_zero, List.set_cons_succ]
  refine wpAnyH_take (i := 4) (v := ?_) rfl (by kernel_rfl) (by kernel_rfl) (by kernel_rfl) (fun _ _ _ h => h) (Or.inl ⟨by kernel_rfl, ?_⟩) (by assumption) ?_
  rotate_left
  · intro w hSw
    go_simp
    with_reducible rfl
  try simp only [Act.put, List.setIfInBounds_toArray, List.set_cons_zero, List.set_cons_succ]
  refine wpAnyH_take (i := 5) (v := ?_) rfl (by kernel_rfl) (by kernel_rfl) (by kernel_rfl) (fun _ _ _ h => h) (Or.inl ⟨by kernel_rfl, ?_⟩) (by assumption) ?_
  rotate_left
  · intro w hSw
    go_simp
    with_reducible rfl
  try simp only [Act.put, List.setIfInBounds_toArray, List.set_cons_zero, List.set_cons_succ]
  refine wpAnyH_take (i := 6) (v := ?_) rfl (by kernel_rfl) (by kernel_rfl) (by kernel_rfl) (fun _ _ _ h => h) (Or.inl ⟨by kernel_rfl, ?_⟩) (by assumption) ?_
  rotate_left
  · intro w hSw
    go_simp
    with_reducible rfl
  try simp only [Act.put, List.setIfInBounds_toArray, List.set_cons_zero, List.set_cons_succ]
  refine wpAnyH_take (i := 7) (v := ?_) rfl (by kernel_rfl) (by kernel_rfl) (by kernel_rfl) (fun _ _ _ h => h) (Or.inl ⟨by kernel_rfl, ?_⟩) (by assumption) ?_
  rotate_left
  · intro w hSw
    go_simp
    with_reducible rfl
  try simp only [Act.put, List.setIfInBounds_toArray, List.set_cons_zero, List.set_cons_succ]
  refine wpAnyH_take (i := 8) (v := ?_) rfl (by kernel_rfl) (by kernel_rfl) (by kernel_rfl) (fun _ _ _ h => h) (Or.inl ⟨by kernel_rfl, ?_⟩) (by assumption) ?_
  rotate_left
  · intro w hSw
    go_simp
    with_reducible rfl
  try simp only [Act.put, List.setIfInBounds_toArray, List.set_cons_zero, List.set_cons_succ]
  refine wpAnyH_ready (rs := [9]) (by kernel_rfl) (by simp) ?_
  refine AllReadyH.cons rfl (fun K hK => ?_) ?_
  · go_simp
    go_fit (r8_Hmac HKd HT.out hDd bD.out (by have := lD.out; omega) hEd bE.out (by have := lE.out; omega))
    rintro e w' ⟨v6, rfl, ⟨O6, hO6, own6⟩, hb⟩
    obtain rfl := HO.out.one hO6
    obtain ⟨g6, k6, rfl, _, _, _, _⟩ := own_form own6 (by decide)
    have cy := conv_any (Bs.of_own own6)
    clear hO6
    refine hK.out _ _ ?_ (fun hHeld2 => ?_)
    · exact KL1.out _ _ hHeld hb
    · clear hK K hHeld
      have hHeld := hHeld2
      clear hHeld2
      try simp only [Act.put, List.setIfInBounds_toArray, List.set_cons_zero, List.set_cons_succ]
      clear hb
      refine wpAnyH_ready (rs := [10]) (by kernel_rfl) (by simp) ?_
      refine AllReadyH.cons rfl (fun K hK => ?_) ?_
      · go_simp
        refine hK.out _ _ ?_ (fun hHeld2 => ?_)
        · exact hHeld
        · clear hK K hHeld
          have hHeld := hHeld2
          clear hHeld2
          try simp only [Act.put, List.setIfInBounds_toArray, List.set_cons_zero, List.set_cons_succ]
          clear cy
          refine wpAnyH_take (i := 11) (v := ?_) rfl (by kernel_rfl) (by kernel_rfl) (by kernel_rfl) (fun _ _ _ h => h) (Or.inl ⟨by kernel_rfl, ?_⟩) (by assumption) ?_
          rotate_left
          · intro w hSw
            go_simp
            with_reducible rfl
          try simp only [Act.put, List.setIfInBounds_toArray, List.set_cons_zero, List.set_cons_succ]
          refine wpAnyH_take (i := 12) (v := ?_) rfl (by kernel_rfl) (by kernel_rfl) (by kernel_rfl) (fun _ _ _ h => h) (Or.inl ⟨by kernel_rfl, ?_⟩) (by assumption) ?_
          rotate_left
          · intro w hSw
            go_simp
            with_reducible rfl
          try simp only [Act.put, List.setIfInBounds_toArray, List.set_cons_zero, List.set_cons_succ]
          refine wpAnyH_take (i := 13) (v := ?_) rfl (by kernel_rfl) (by kernel_rfl) (by kernel_rfl) (fun _ _ _ h => h) (Or.inl ⟨by kernel_rfl, ?_⟩) (by assumption) ?_
          rotate_left
          · intro w hSw
            go_simp
            with_reducible rfl
          try simp only [Act.put, List.setIfInBounds_toArray, List.set_cons_zero, List.set_cons_succ]
          refine wpAnyH_take (i := 14) (v := ?_) rfl (by kernel_rfl) (by kernel_rfl) (by kernel_rfl) (fun _ _ _ h => h) (Or.inl ⟨by kernel_rfl, ?_⟩) (by assumption) ?_
          rotate_left
          · intro w hSw
            go_simp
            with_reducible rfl
          try simp only [Act.put, List.setIfInBounds_toArray, List.set_cons_zero, List.set_cons_succ]
          refine wpAnyH_take (i := 15) (v := ?_) rfl (by kernel_rfl) (by kernel_rfl) (by kernel_rfl) (fun _ _ _ h => h) (Or.inl ⟨by kernel_rfl, ?_⟩) (by assumption) ?_
          rotate_left
          · intro w hSw
            go_simp
            with_reducible rfl
          try simp only [Act.put, List.setIfInBounds_toArray, List.set_cons_zero, List.set_cons_succ]
          refine wpAnyH_take (i := 16) (v := ?_) rfl (by kernel_rfl) (by kernel_rfl) (by kernel_rfl) (fun _ _ _ h => h) (Or.inl ⟨by kernel_rfl, ?_⟩) (by assumption) ?_
          rotate_left
          · intro w hSw
            go_simp
            with_reducible rfl
          try simp only [Act.put, List.setIfInBounds_toArray, List.set_cons_zero, List.set_cons_succ]
          refine wpAnyH_take (i := 17) (v := ?_) rfl (by kernel_rfl) (by kernel_rfl) (by kernel_rfl) (fun _ _ _ h => h) (Or.inl ⟨by kernel_rfl, ?_⟩) (by assumption) ?_
          rotate_left
          · intro w hSw
            go_simp
            with_reducible rfl
          try simp only [Act.put, List.setIfInBounds_toArray, List.set_cons_zero, List.set_cons_succ]
          refine wpAnyH_take (i := 18) (v := ?_) rfl (by kernel_rfl) (by kernel_rfl) (by kernel_rfl) (fun _ _ _ h => h) (Or.inl ⟨by kernel_rfl, ?_⟩) (by assumption) ?_
          rotate_left
          · intro w hSw
            go_simp
            with_reducible rfl
          try simp only [Act.put, List.setIfInBounds_toArray, List.set_cons_zero, List.set_cons_succ]
          refine wpAnyH_take (i := 19) (v := ?_) rfl (by kernel_rfl) (by kernel_rfl) (by kernel_rfl) (fun _ _ _ h => h) (Or.inl ⟨by kernel_rfl, ?_⟩) (by assumption) ?_
          rotate_left
          · intro w hSw
            go_simp
            with_reducible rfl
          try simp only [Act.put, List.setIfInBounds_toArray, List.set_cons_zero, List.set_cons_succ]
          refine wpAnyH_take (i := 20) (v := ?_) rfl (by kernel_rfl) (by kernel_rfl) (by kernel_rfl) (fun _ _ _ h => h) (Or.inl ⟨by kernel_rfl, ?_⟩) (by assumption) ?_
          rotate_left
          · intro w hSw
            go_simp
            with_reducible rfl
          try simp only [Act.put, List.setIfInBounds_toArray, List.set_cons_zero, List.set_cons_succ]
          refine wpAnyH_take (i := 21) (v := ?_) rfl (by kernel_rfl) (by kernel_rfl) (by kernel_rfl) (fun _ _ _ h => h) (Or.inl ⟨by kernel_rfl, ?_⟩) (by assumption) ?_
          rotate_left
          · intro w hSw
            go_simp
            with_reducible rfl
          try simp only [Act.put, List.setIfInBounds_toArray, List.set_cons_zero, List.set_cons_succ]
          refine wpAnyH_take (i := 22) (v := ?_) rfl (by kernel_rfl) (by kernel_rfl) (by kernel_rfl) (fun _ _ _ h => h) (Or.inl ⟨by kernel_rfl, ?_⟩) (by assumption) ?_
          rotate_left
          · intro w hSw
            go_simp
            with_reducible rfl
          try simp only [Act.put, List.setIfInBounds_toArray, List.set_cons_zero, List.set_cons_succ]
          refine wpAnyH_take (i := 23) (v := ?_) rfl (by kernel_rfl) (by kernel_rfl) (by kernel_rfl) (fun _ _ _ h => h) (Or.inl ⟨by kernel_rfl, ?_⟩) (by assumption) ?_
          rotate_left
          · intro w hSw
            go_simp
            with_reducible rfl
          try simp only [Act.put, List.setIfInBounds_toArray, List.set_cons_zero, List.set_cons_succ]
          refine wpAnyH_take (i := 24) (v := ?_) rfl (by kernel_rfl) (by kernel_rfl) (by kernel_rfl) (fun _ _ _ h => h) (Or.inl ⟨by kernel_rfl, ?_⟩) (by assumption) ?_
          rotate_left
          · intro w hSw
            go_simp
            with_reducible rfl
          try simp only [Act.put, List.setIfInBounds_toArray, List.set_cons_zero, List.set_cons_succ]
          refine wpAnyH_take (i := 25) (v := ?_) rfl (by kernel_rfl) (by kernel_rfl) (by kernel_rfl) (fun _ _ _ h => h) (Or.inl ⟨by kernel_rfl, ?_⟩) (by assumption) ?_
          rotate_left
          · intro w hSw
            go_simp
            with_reducible rfl
          try simp only [Act.put, List.setIfInBounds_toArray, List.set_cons_zero, List.set_cons_succ]
          refine wpAnyH_take (i := 26) (v := ?_) rfl (by kernel_rfl) (by kernel_rfl) (by kernel_rfl) (fun _ _ _ h => h) (Or.inl ⟨by kernel_rfl, ?_⟩) (by assumption) ?_
          rotate_left
          · intro w hSw
            go_simp
            with_reducible rfl
          try simp only [Act.put, List.setIfInBounds_toArray, List.set_cons_zero, List.set_cons_succ]
          refine wpAnyH_ready (rs := [27]) (by kernel_rfl) (by simp) ?_
          refine AllReadyH.cons rfl (fun K hK => ?_) ?_
          · go_simp
            refine hK.out _ _ ?_ (fun hHeld2 => ?_)
            · exact hHeld
            · clear hK K hHeld
              have hHeld := hHeld2
              clear hHeld2
              try simp only [Act.put, List.setIfInBounds_toArray, List.set_cons_zero, List.set_cons_succ]
              refine wpAnyH_done (by kernel_rfl) ?_ _
              refine NoPanic.normal ?_
              go_wp2_with fail
              go_ret
              exact ⟨rfl, below_step bel (KB1.out _ hHeld)⟩
          exact AllReadyH.nil
      exact AllReadyH.nil
  exact AllReadyH.nil
end Go.Proofs.YtbglkbfnhnmodaaDoor
