/- The law MacExpands answers true: as many bytes as one likes by any key, or that there are not so many. -/
import Derived.Test.YtbglkbfnhnmodaaDoorRows
import Derived.Test.YtbglkbfnhnmodaaDoorMcLaw
import Derived.Deep.WholeRow
import Derived.Deep.RegionHeld3
import Derived.Deep.DeepCutAuto
import Derived.Deep.DeepFit
namespace Go.Proofs.YtbglkbfnhnmodaaDoor
open Go.RowKit

set_option linter.unusedSimpArgs false in
set_option maxRecDepth 100000 in
set_option maxHeartbeats 4000000 in
theorem expands_ok {kv bv : Value} {key b : List Int} {n : Nat} {w : World} (G : GlsS w) (hk : Bs w kv key) (bk : byt key) (hb : Bs w bv b) (bb : byt b) (hn : n ≤ 12240) :
    Calls Tryd.prog 5 #[kv, bv, .int .i64 (n : Int)] w fun e w' => e = .returned (.bool true) ∧ Below w.heap.size w w' := by
  have HG : Hid (GlsS w) := G
  have HKb : Hid (byt key) := bk
  have HBb : Hid (byt b) := bb
  clear G bk bb
  obtain ⟨t0, t1, t2, t3, t4, t5, t6, t7, ht⟩ := eight (show HS.length = 8 from rfl)
  have HT : Hid (HS = [t0, t1, t2, t3, t4, t5, t6, t7]) := ht
  clear ht
  have bel : Below w.heap.size w w := Below.refl _ _
  have HN : Hid (n ≤ 12240) := hn
  clear hn
  go_enter Tryd.func5, Tryd.ntmps5
  go_wp2_with fail
  refine (con_cut (n := 500) rfl hk).mono ?_
  rintro e wz ⟨v1, rfl, hD, hz⟩
  rw [hz]
  clear hz wz
  obtain ⟨D, eD⟩ : ∃ z, key.take 500 = z := ⟨_, rfl⟩
  rw [eD] at hD
  have bD : Hid (byt D) := by rw [← eD]; exact byt_cutN HKb.out 500
  have lD : Hid (D.length ≤ 500) := by rw [← eD]; show _ ≤ _; rw [List.length_take]; omega
  clear eD
  go_wp2_with fail
  refine (con_cut (n := 500) rfl hb).mono ?_
  rintro e wz ⟨v2, rfl, hE, hz⟩
  rw [hz]
  clear hz wz
  obtain ⟨E, eE⟩ : ∃ z, b.take 500 = z := ⟨_, rfl⟩
  rw [eE] at hE
  have bE : Hid (byt E) := by rw [← eE]; exact byt_cutN HBb.out 500
  have lE : Hid (E.length ≤ 500) := by rw [← eE]; show _ ≤ _; rw [List.length_take]; omega
  clear eE
  clear hk hb
  go_wp2_with fail
  refine (con_Expand (n := 1) (HG.out.below bel) hD bD.out (by have := lD.out; omega) hE bE.out (by have := lE.out; omega) (by decide)).mono ?_
  rintro e w3 ⟨v3, rfl, ⟨X3, hX3, h3⟩, hbb⟩
  have l3 := hX3.ln
  replace hD := hD.later hbb
  replace hE := hE.later hbb
  replace bel := below_step bel hbb
  obtain ⟨g3, o3, k3, rfl, d1, d2⟩ := h3.form (by omega)
  rw [l3]
  clear hbb hX3 h3 d1 d2 l3
  have q1 := nil_ne
  go_wp2_with fail
  refine (con_Expand (n := n) (HG.out.below bel) hD bD.out (by have := lD.out; omega) hE bE.out (by have := lE.out; omega) HN.out).mono ?_
  rintro e w4 ⟨v4, rfl, ⟨X, hX, h4⟩, hbb⟩
  have HX : Hid (MadeIs D E n X) := hX
  replace hD := hD.later hbb
  replace hE := hE.later hbb
  replace bel := below_step bel hbb
  clear hbb hX
  have n1 : ¬ (n : Int) < 0 := by omega
  have n2 : ¬ 12240 < (n : Int) := by have := HN.out; omega
  have q2 := nil_eq
  go_wp2_with fail
  refine (r7_MadeT HT.out).mono ?_
  rintro e wm ⟨kb, kc, rfl, HK, hbb⟩
  replace hD := hD.later hbb
  replace hE := hE.later hbb
  replace h4 := h4.later hbb
  replace bel := below_step bel hbb
  clear hbb
  have Bt := Blk.new wm [.slice (some ⟨kb, 0, none⟩) 80 kc, .int .u64 t0, .int .u64 t1, .int .u64 t2, .int .u64 t3, .int .u64 t4, .int .u64 t5, .int .u64 t6, .int .u64 t7] 29 wm.heap.size rfl
  replace hD := hD.later ((Below.refl _ _).alloc (Nat.le_refl _) (.cells #[.slice (some ⟨kb, 0, none⟩) 80 kc, .int .u64 t0, .int .u64 t1, .int .u64 t2, .int .u64 t3, .int .u64 t4, .int .u64 t5, .int .u64 t6, .int .u64 t7] 29))
  replace hE := hE.later ((Below.refl _ _).alloc (Nat.le_refl _) (.cells #[.slice (some ⟨kb, 0, none⟩) 80 kc, .int .u64 t0, .int .u64 t1, .int .u64 t2, .int .u64 t3, .int .u64 t4, .int .u64 t5, .int .u64 t6, .int .u64 t7] 29))
  replace h4 := h4.later ((Below.refl _ _).alloc (Nat.le_refl _) (.cells #[.slice (some ⟨kb, 0, none⟩) 80 kc, .int .u64 t0, .int .u64 t1, .int .u64 t2, .int .u64 t3, .int .u64 t4, .int .u64 t5, .int .u64 t6, .int .u64 t7] 29))
  replace HK := HK.later ((Below.refl _ _).alloc (Nat.le_refl _) (.cells #[.slice (some ⟨kb, 0, none⟩) 80 kc, .int .u64 t0, .int .u64 t1, .int .u64 t2, .int .u64 t3, .int .u64 t4, .int .u64 t5, .int .u64 t6, .int .u64 t7] 29))
  replace bel := below_alloc (o := .cells #[.slice (some ⟨kb, 0, none⟩) 80 kc, .int .u64 t0, .int .u64 t1, .int .u64 t2, .int .u64 t3, .int .u64 t4, .int .u64 t5, .int .u64 t6, .int .u64 t7] 29) bel
  go_upto_region 10 with fail
  obtain ⟨bt, hbt⟩ : ∃ z, z = wm.heap.size := ⟨_, rfl⟩
  generalize wm.alloc (Obj.cells #[.slice (some ⟨kb, 0, none⟩) 80 kc, .int .u64 t0, .int .u64 t1, .int .u64 t2, .int .u64 t3, .int .u64 t4, .int .u64 t5, .int .u64 t6, .int .u64 t7] 29) = Wt at *
  rw [← hbt] at Bt ⊢
  clear hbt
  obtain ⟨S1, hS1, KL1, KA1, KD1, KS1, KQ1, KN1, KB1, KM1, KR1⟩ := held3 (w0 := Wt) (W := Wt) [(bt, [.slice (some ⟨kb, 0, none⟩) 80 kc, .int .u64 t0, .int .u64 t1, .int .u64 t2, .int .u64 t3, .int .u64 t4, .int .u64 t5, .int .u64 t6, .int .u64 t7])] (by
    intro b X h
    simp only [List.mem_cons, List.not_mem_nil, or_false, Prod.mk.injEq] at h
    obtain ⟨rfl, rfl⟩ := h
    exact Bt) (Below.refl _ _)
  clear KS1 KQ1 KN1 KR1 KA1
  have kb1a : ∀ wx, Hd S1 wx → Blk wx bt [.slice (some ⟨kb, 0, none⟩) 80 kc, .int .u64 t0, .int .u64 t1, .int .u64 t2, .int .u64 t3, .int .u64 t4, .int .u64 t5, .int .u64 t6, .int .u64 t7] := fun wx h => KM1.out wx _ _ h (List.Mem.head _)
  have r0 := rulec kb1a 0 _ rfl
  have r1 := rulec kb1a 1 _ rfl
  have r2 := rulec kb1a 2 _ rfl
  have r3 := rulec kb1a 3 _ rfl
  have r4 := rulec kb1a 4 _ rfl
  have r5 := rulec kb1a 5 _ rfl
  have r6 := rulec kb1a 6 _ rfl
  have r7 := rulec kb1a 7 _ rfl
  have r8 := rulec kb1a 8 _ rfl
  have rl := ruleb kb1a
  clear kb1a
  have x4 := fun wx (h : Hd S1 wx) => conv_any (h4.later (KB1.out wx h))
  refine wp_region_noPanic ?_
  refine wp_region_held_drew (S := Hd S1) (by kernel_rfl) (KD1.out _ hS1) (fun hHeld => ?_)
  clear hS1
  have hDd : Bs Wt.drew _ D := hD
  have hEd : Bs Wt.drew _ E := hE
  have HKd : KAt Wt.drew kb := HK
  generalize World.drew _ = wd at *
  refine wpAnyH_take (i := 0) (v := ?_) rfl (by kernel_rfl) (by kernel_rfl) (by kernel_rfl) (fun _ _ _ h => h) (Or.inl ⟨by kernel_rfl, ?_⟩) (by assumption) ?_
  rotate_left
  · intro w hSw
    go_simp
    with_reducible rfl
  try simp only [Act.put, List.setIfInBounds_toArray, List.set_cons_zero, List.set_cons_succ]
  refine wpAnyH_take (i := 1) (v := ?_) rfl (by kernel_rfl) (by kernel_rfl) (by kernel_rfl) (fun _ _ _ h => h) (Or.inl ⟨by kernel_rfl, ?_⟩) (by assumption) ?_
  rotate_left
  · intro w hSw
    go_simp
    with_reducible rfl
  try simp only [Act.put, List.setIfInBounds_toArray, List.set_cons_zero, List.set_cons_succ]
  refine wpAnyH_take (i := 2) (v := ?_) rfl (by kernel_rfl) (by kernel_rfl) (by kernel_rfl) (fun _ _ _ h => h) (Or.inl ⟨by kernel_rfl, ?_⟩) (by assumption) ?_
  rotate_left
  · intro w hSw
    go_simp
    with_reducible rfl
  try simp only [Act.put, List.setIfInBounds_toArray, List.set_cons_zero, List.set_cons_succ]
  refine wpAnyH_take (i := 3) (v := ?_) rfl (by kernel_rfl) (by kernel_rfl) (by kernel_rfl) (fun _ _ _ h => h) (Or.inl ⟨by kernel_rfl, ?_⟩) (by assumption) ?_
  rotate_left
  · intro w hSw
    go_simp
    with_reducible rfl
  try simp only [Act.put, List.setIfInBounds_toArray, List.set_cons_zero, List.set_cons_succ]
  refine wpAnyH_take (i := 4) (v := ?_) rfl (by kernel_rfl) (by kernel_rfl) (by kernel_rfl) (fun _ _ _ h => h) (Or.inl ⟨by kernel_rfl, ?_⟩) (by assumption) ?_
  rotate_left
  · intro w hSw
    go_simp
    with_reducible rfl
  try simp only [Act.put, List.setIfInBounds_toArray, List.set_cons_zero, List.set_cons_succ]
  refine wpAnyH_take (i := 5) (v := ?_) rfl (by kernel_rfl) (by kernel_rfl) (by kernel_rfl) (fun _ _ _ h => h) (Or.inl ⟨by kernel_rfl, ?_⟩) (by assumption) ?_
  rotate_left
  · intro w hSw
    go_simp
    with_reducible rfl
  try simp only [Act.put, List.setIfInBounds_toArray, List.set_cons_zero, List.set_cons_succ]
  refine wpAnyH_take (i := 6) (v := ?_) rfl (by kernel_rfl) (by kernel_rfl) (by kernel_rfl) (fun _ _ _ h => h) (Or.inl ⟨by kernel_rfl, ?_⟩) (by assumption) ?_
  rotate_left
  · intro w hSw
    go_simp
    with_reducible rfl
  try simp only [Act.put, List.setIfInBounds_toArray, List.set_cons_zero, List.set_cons_succ]
  refine wpAnyH_take (i := 7) (v := ?_) rfl (by kernel_rfl) (by kernel_rfl) (by kernel_rfl) (fun _ _ _ h => h) (Or.inl ⟨by kernel_rfl, ?_⟩) (by assumption) ?_
  rotate_left
  · intro w hSw
    go_simp
    with_reducible rfl
  try simp only [Act.put, List.setIfInBounds_toArray, List.set_cons_zero, List.set_cons_succ]
  refine wpAnyH_take (i := 8) (v := ?_) rfl (by kernel_rfl) (by kernel_rfl) (by kernel_rfl) (fun _ _ _ h => h) (Or.inl ⟨by kernel_rfl, ?_⟩) (by assumption) ?_
  rotate_left
  · intro w hSw
    go_simp
    with_reducible rfl
  try simp only [Act.put, List.setIfInBounds_toArray, List.set_cons_zero, List.set_cons_succ]
  refine wpAnyH_ready (rs := [9]) (by kernel_rfl) (by simp) ?_
  refine AllReadyH.cons rfl (fun K hK => ?_) ?_
  · go_simp
    go_fit (r8_Expand HKd HT.out hDd bD.out (by have := lD.out; omega) hEd bE.out (by have := lE.out; omega) HN.out)
    rintro e w' ⟨v6, rfl, ⟨X6, hX6, h6⟩, hb⟩
    obtain rfl := HX.out.one hX6
    have cy := conv_any h6
    clear hX6
    refine hK.out _ _ ?_ (fun hHeld2 => ?_)
    · exact KL1.out _ _ hHeld hb
    · clear hK K hHeld
      have hHeld := hHeld2
      clear hHeld2
      try simp only [Act.put, List.setIfInBounds_toArray, List.set_cons_zero, List.set_cons_succ]
      clear hb
      refine wpAnyH_ready (rs := [10]) (by kernel_rfl) (by simp) ?_
      refine AllReadyH.cons rfl (fun K hK => ?_) ?_
      · go_simp
        refine hK.out _ _ ?_ (fun hHeld2 => ?_)
        · exact hHeld
        · clear hK K hHeld
          have hHeld := hHeld2
          clear hHeld2
          try simp only [Act.put, List.setIfInBounds_toArray, List.set_cons_zero, List.set_cons_succ]
          clear cy
          refine wpAnyH_take (i := 11) (v := ?_) rfl (by kernel_rfl) (by kernel_rfl) (by kernel_rfl) (fun _ _ _ h => h) (Or.inl ⟨by kernel_rfl, ?_⟩) (by assumption) ?_
          rotate_left
          · intro w hSw
            go_simp
            with_reducible rfl
          try simp only [Act.put, List.setIfInBounds_toArray, List.set_cons_zero, List.set_cons_succ]
          refine wpAnyH_take (i := 12) (v := ?_) rfl (by kernel_rfl) (by kernel_rfl) (by kernel_rfl) (fun _ _ _ h => h) (Or.inl ⟨by kernel_rfl, ?_⟩) (by assumption) ?_
          rotate_left
          · intro w hSw
            go_simp
            with_reducible rfl
          try simp only [Act.put, List.setIfInBounds_toArray, List.set_cons_zero, List.set_cons_succ]
          refine wpAnyH_ready (rs := [13]) (by kernel_rfl) (by simp) ?_
          refine AllReadyH.cons rfl (fun K hK => ?_) ?_
          · go_simp
            refine hK.out _ _ ?_ (fun hHeld2 => ?_)
            · exact hHeld
            · clear hK K hHeld
              have hHeld := hHeld2
              clear hHeld2
              try simp only [Act.put, List.setIfInBounds_toArray, List.set_cons_zero, List.set_cons_succ]
              refine wpAnyH_done (by kernel_rfl) ?_ _
              refine NoPanic.normal ?_
              go_wp2_with fail
              go_ret
              exact ⟨rfl, below_step bel (KB1.out _ hHeld)⟩
          exact AllReadyH.nil
      exact AllReadyH.nil
  exact AllReadyH.nil

set_option linter.unusedSimpArgs false in
set_option maxRecDepth 100000 in
set_option maxHeartbeats 4000000 in
theorem expands_bad {kv bv : Value} {key b : List Int} {n : Int} {w : World} (G : GlsS w) (hk : Bs w kv key) (bk : byt key) (hb : Bs w bv b) (bb : byt b) (hn : n < 0 ∨ 12240 < n) :
    Calls Tryd.prog 5 #[kv, bv, .int .i64 n] w fun e w' => e = .returned (.bool true) ∧ Below w.heap.size w w' := by
  have HG : Hid (GlsS w) := G
  have HKb : Hid (byt key) := bk
  have HBb : Hid (byt b) := bb
  clear G bk bb
  obtain ⟨t0, t1, t2, t3, t4, t5, t6, t7, ht⟩ := eight (show HS.length = 8 from rfl)
  have HT : Hid (HS = [t0, t1, t2, t3, t4, t5, t6, t7]) := ht
  clear ht
  have bel : Below w.heap.size w w := Below.refl _ _
  have HN : Hid (n < 0 ∨ 12240 < n) := hn
  clear hn
  go_enter Tryd.func5, Tryd.ntmps5
  go_wp2_with fail
  refine (con_cut (n := 500) rfl hk).mono ?_
  rintro e wz ⟨v1, rfl, hD, hz⟩
  rw [hz]
  clear hz wz
  obtain ⟨D, eD⟩ : ∃ z, key.take 500 = z := ⟨_, rfl⟩
  rw [eD] at hD
  have bD : Hid (byt D) := by rw [← eD]; exact byt_cutN HKb.out 500
  have lD : Hid (D.length ≤ 500) := by rw [← eD]; show _ ≤ _; rw [List.length_take]; omega
  clear eD
  go_wp2_with fail
  refine (con_cut (n := 500) rfl hb).mono ?_
  rintro e wz ⟨v2, rfl, hE, hz⟩
  rw [hz]
  clear hz wz
  obtain ⟨E, eE⟩ : ∃ z, b.take 500 = z := ⟨_, rfl⟩
  rw [eE] at hE
  have bE : Hid (byt E) := by rw [← eE]; exact byt_cutN HBb.out 500
  have lE : Hid (E.length ≤ 500) := by rw [← eE]; show _ ≤ _; rw [List.length_take]; omega
  clear eE
  clear hk hb
  go_wp2_with fail
  refine (con_Expand (n := 1) (HG.out.below bel) hD bD.out (by have := lD.out; omega) hE bE.out (by have := lE.out; omega) (by decide)).mono ?_
  rintro e w3 ⟨v3, rfl, ⟨X3, hX3, h3⟩, hbb⟩
  have l3 := hX3.ln
  replace hD := hD.later hbb
  replace hE := hE.later hbb
  replace bel := below_step bel hbb
  obtain ⟨g3, o3, k3, rfl, d1, d2⟩ := h3.form (by omega)
  rw [l3]
  clear hbb hX3 h3 d1 d2 l3
  have q1 := nil_ne
  go_wp2_with fail
  refine (con_ExpandBad (HG.out.below bel) hD bD.out (by have := lD.out; omega) hE bE.out (by have := lE.out; omega) HN.out).mono ?_
  rintro e w4 ⟨ao, cap, rfl, hbb⟩
  replace bel := below_step bel hbb
  clear hbb
  have q2 := code_eq 1
  rcases HN.out with h | h
  · have h2 := h
    go_wp2_with fail
    go_ret
    exact ⟨rfl, bel⟩
  · have h2 : ¬ n < 0 := by omega
    have h3 := h
    go_wp2_with fail
    go_ret
    exact ⟨rfl, bel⟩

theorem law_macExpands (kv : Value) (key : List Int) (bv : Value) (b : List Int) (n : Int) (w : World) (G : GlsS w) (hk : Bs w kv key) (bk : byt key) (hb : Bs w bv b) (bb : byt b) {q : Prop} (_ : q) :
    Calls Tryd.prog 5 #[kv, bv, .int .i64 n] w fun e w' => e = .returned (.bool true) ∧ Below w.heap.size w w' := by
  by_cases h : n < 0 ∨ 12240 < n
  · exact expands_bad G hk bk hb bb h
  · obtain ⟨k, rfl⟩ := Int.eq_ofNat_of_zero_le (show 0 ≤ n by omega)
    exact expands_ok G hk bk hb bb (by omega)
end Go.Proofs.YtbglkbfnhnmodaaDoor
