/- The law MacExtracts answers true: a secret's key is its digest by the salt. -/
import Derived.Test.YtbglkbfnhnmodaaDoorRows
import Derived.Test.YtbglkbfnhnmodaaDoorMcLaw
import Derived.Deep.WholeRow
import Derived.Deep.RegionHeld3
import Derived.Deep.DeepCutAuto
import Derived.Deep.DeepFit
namespace Go.Proofs.YtbglkbfnhnmodaaDoor
open Go.RowKit

set_option linter.unusedSimpArgs false in
set_option maxRecDepth 100000 in
set_option maxHeartbeats 4000000 in
theorem law_macExtracts (kv : Value) (key : List Int) (bv : Value) (b : List Int) (w : World) (G : GlsS w) (hk : Bs w kv key) (bk : byt key) (hb : Bs w bv b) (bb : byt b) :
    Calls Tryd.prog 4 #[kv, bv] w fun e w' => e = .returned (.bool true) ∧ Below w.heap.size w w' := by
  have HG : Hid (GlsS w) := G
  have HKb : Hid (byt key) := bk
  have HBb : Hid (byt b) := bb
  clear G bk bb
  obtain ⟨t0, t1, t2, t3, t4, t5, t6, t7, ht⟩ := eight (show HS.length = 8 from rfl)
  have HT : Hid (HS = [t0, t1, t2, t3, t4, t5, t6, t7]) := ht
  clear ht
  have bel : Below w.heap.size w w := Below.refl _ _
  go_enter Tryd.func4, Tryd.ntmps4
  go_wp2_with fail
  refine (con_cut (n := 2000) rfl hk).mono ?_
  rintro e wz ⟨v1, rfl, hD, hz⟩
  rw [hz]
  clear hz wz
  obtain ⟨D, eD⟩ : ∃ z, key.take 2000 = z := ⟨_, rfl⟩
  rw [eD] at hD
  have bD : Hid (byt D) := by rw [← eD]; exact byt_cutN HKb.out 2000
  have lD : Hid (D.length ≤ 2000) := by rw [← eD]; show _ ≤ _; rw [List.length_take]; omega
  clear eD
  go_wp2_with fail
  refine (con_cut (n := 2000) rfl hb).mono ?_
  rintro e wz ⟨v2, rfl, hE, hz⟩
  rw [hz]
  clear hz wz
  obtain ⟨E, eE⟩ : ∃ z, b.take 2000 = z := ⟨_, rfl⟩
  rw [eE] at hE
  have bE : Hid (byt E) := by rw [← eE]; exact byt_cutN HBb.out 2000
  have lE : Hid (E.length ≤ 2000) := by rw [← eE]; show _ ≤ _; rw [List.length_take]; omega
  clear eE
  clear hk hb
  go_wp2_with fail
  refine (r7_MadeT HT.out).mono ?_
  rintro e wm ⟨kb, kc, rfl, HK, hbb⟩
  replace hD := hD.later hbb
  replace hE := hE.later hbb
  replace bel := below_step bel hbb
  clear hbb
  have Bt := Blk.new wm [.slice (some ⟨kb, 0, none⟩) 80 kc, .int .u64 t0, .int .u64 t1, .int .u64 t2, .int .u64 t3, .int .u64 t4, .int .u64 t5, .int .u64 t6, .int .u64 t7] 29 wm.heap.size rfl
  replace hD := hD.later ((Below.refl _ _).alloc (Nat.le_refl _) (.cells #[.slice (some ⟨kb, 0, none⟩) 80 kc, .int .u64 t0, .int .u64 t1, .int .u64 t2, .int .u64 t3, .int .u64 t4, .int .u64 t5, .int .u64 t6, .int .u64 t7] 29))
  replace hE := hE.later ((Below.refl _ _).alloc (Nat.le_refl _) (.cells #[.slice (some ⟨kb, 0, none⟩) 80 kc, .int .u64 t0, .int .u64 t1, .int .u64 t2, .int .u64 t3, .int .u64 t4, .int .u64 t5, .int .u64 t6, .int .u64 t7] 29))
  replace HK := HK.later ((Below.refl _ _).alloc (Nat.le_refl _) (.cells #[.slice (some ⟨kb, 0, none⟩) 80 kc, .int .u64 t0, .int .u64 t1, .int .u64 t2, .int .u64 t3, .int .u64 t4, .int .u64 t5, .int .u64 t6, .int .u64 t7] 29))
  replace bel := below_alloc (o := .cells #[.slice (some ⟨kb, 0, none⟩) 80 kc, .int .u64 t0, .int .u64 t1, .int .u64 t2, .int .u64 t3, .int .u64 t4, .int .u64 t5, .int .u64 t6, .int .u64 t7] 29) bel
  go_upto_region 4 with fail
  obtain ⟨bt, hbt⟩ : ∃ z, z = wm.heap.size := ⟨_, rfl⟩
  generalize wm.alloc (Obj.cells #[.slice (some ⟨kb, 0, none⟩) 80 kc, .int .u64 t0, .int .u64 t1, .int .u64 t2, .int .u64 t3, .int .u64 t4, .int .u64 t5, .int .u64 t6, .int .u64 t7] 29) = Wt at *
  rw [← hbt] at Bt ⊢
  clear hbt
  obtain ⟨S1, hS1, KL1, KA1, KD1, KS1, KQ1, KN1, KB1, KM1, KR1⟩ := held3 (w0 := Wt) (W := Wt) [(bt, [.slice (some ⟨kb, 0, none⟩) 80 kc, .int .u64 t0, .int .u64 t1, .int .u64 t2, .int .u64 t3, .int .u64 t4, .int .u64 t5, .int .u64 t6, .int .u64 t7])] (by
    intro b X h
    simp only [List.mem_cons, List.not_mem_nil, or_false, Prod.mk.injEq] at h
    obtain ⟨rfl, rfl⟩ := h
    exact Bt) (Below.refl _ _)
  clear KS1 KQ1 KN1 KR1 KA1
  have kb1a : ∀ wx, Hd S1 wx → Blk wx bt [.slice (some ⟨kb, 0, none⟩) 80 kc, .int .u64 t0, .int .u64 t1, .int .u64 t2, .int .u64 t3, .int .u64 t4, .int .u64 t5, .int .u64 t6, .int .u64 t7] := fun wx h => KM1.out wx _ _ h (List.Mem.head _)
  have r0 := rulec kb1a 0 _ rfl
  have r1 := rulec kb1a 1 _ rfl
  have r2 := rulec kb1a 2 _ rfl
  have r3 := rulec kb1a 3 _ rfl
  have r4 := rulec kb1a 4 _ rfl
  have r5 := rulec kb1a 5 _ rfl
  have r6 := rulec kb1a 6 _ rfl
  have r7 := rulec kb1a 7 _ rfl
  have r8 := rulec kb1a 8 _ rfl
  have rl := ruleb kb1a
  clear kb1a
  refine wp_region_noPanic ?_
  refine wp_region_held_drew (S := Hd S1) (by kernel_rfl) (KD1.out _ hS1) (fun hHeld => ?_)
  clear hS1
  generalize World.drew _ = wd at *
  refine wpAnyH_take (i := 0) (v := ?_) rfl (by kernel_rfl) (by kernel_rfl) (by kernel_rfl) (fun _ _ _ h => h) (Or.inl ⟨by kernel_rfl, ?_⟩) (by assumption) ?_
  rotate_left
  · intro w hSw
    go_simp
    with_reducible rfl
  try simp only [Act.put, List.setIfInBounds_toArray, List.set_cons_zero, List.set_cons_succ]
  refine wpAnyH_take (i := 1) (v := ?_) rfl (by kernel_rfl) (by kernel_rfl) (by kernel_rfl) (fun _ _ _ h => h) (Or.inl ⟨by kernel_rfl, ?_⟩) (by assumption) ?_
  rotate_left
  · intro w hSw
    go_simp
    with_reducible rfl
  try simp only [Act.put, List.setIfInBounds_toArray, List.set_cons_zero, List.set_cons_succ]
  refine wpAnyH_take (i := 4) (v := ?_) rfl (by kernel_rfl) (by kernel_rfl) (by kernel_rfl) (fun _ _ _ h => h) (Or.inl ⟨by kernel_rfl, ?_⟩) (by assumption) ?_
  rotate_left
  · intro w hSw
    go_simp
    with_reducible rfl
  try simp only [Act.put, List.setIfInBounds_toArray, List.set_cons_zero, List.set_cons_succ]
  refine wpAnyH_take (i := 5) (v := ?_) rfl (by kernel_rfl) (by kernel_rfl) (by kernel_rfl) (fun _ _ _ h => h) (Or.inl ⟨by kernel_rfl, ?_⟩) (by assumption) ?_
  rotate_left
  · intro w hSw
    go_simp
    with_reducible rfl
  try simp only [Act.put, List.setIfInBounds_toArray, List.set_cons_zero, List.set_cons_succ]
  refine wpAnyH_take (i := 6) (v := ?_) rfl (by kernel_rfl) (by kernel_rfl) (by kernel_rfl) (fun _ _ _ h => h) (Or.inl ⟨by kernel_rfl, ?_⟩) (by assumption) ?_
  rotate_left
  · intro w hSw
    go_simp
    with_reducible rfl
  try simp only [Act.put, List.setIfInBounds_toArray, List.set_cons_zero, List.set_cons_succ]
  clear r0 r1 r2 r3 r4 r5 r6 r7 r8 rl
  refine wpAnyH_ready (rs := [2]) (by kernel_rfl) (by simp) ?_
  refine AllReadyH.cons rfl (fun K hK => ?_) ?_
  · go_simp
    go_fit (con_Extract (HG.out.below (below_step bel (KB1.out _ hHeld))) (hD.later (KB1.out _ hHeld)) bD.out (by have := lD.out; omega) (hE.later (KB1.out _ hHeld)) bE.out (by have := lE.out; omega))
    rintro e wa ⟨v5, rfl, ⟨O, hO, h5⟩, hb⟩
    refine hK.out _ _ ?_ (fun hHeld2 => ?_)
    · exact KL1.out _ _ hHeld hb
    · clear hK K hHeld
      have hHeld := hHeld2
      clear hHeld2
      try simp only [Act.put, List.setIfInBounds_toArray, List.set_cons_zero, List.set_cons_succ]
      have HO : Hid (HmacIs D E O) := hO
      have l48 : O.length = 48 := hO.ln
      obtain ⟨g5, o5, k5, rfl, d1, d2⟩ := h5.form (by omega)
      rw [l48] at h5 d1 ⊢
      unfold maxLen at d2
      clear hb hO
      refine wpAnyH_ready (rs := [3, 7]) (by kernel_rfl) (by simp) ?_
      refine AllReadyH.cons rfl (fun K hK => ?_) ?_
      · have cy := conv_any h5
        go_simp
        refine hK.out _ _ ?_ (fun hHeld2 => ?_)
        · exact hHeld
        · clear hK K hHeld
          have hHeld := hHeld2
          clear hHeld2
          try simp only [Act.put, List.setIfInBounds_toArray, List.set_cons_zero, List.set_cons_succ]
          clear cy
          refine wpAnyH_ready (rs := [7]) (by kernel_rfl) (by simp) ?_
          refine AllReadyH.cons rfl (fun K hK => ?_) ?_
          · go_simp
            go_fit (r8_Hmac (HK.later (KB1.out _ hHeld)) HT.out (hD.later (KB1.out _ hHeld)) bD.out (by have := lD.out; omega) (hE.later (KB1.out _ hHeld)) bE.out (by have := lE.out; omega))
            rintro e wb ⟨v6, rfl, ⟨O6, hO6, own6⟩, hb⟩
            obtain rfl := HO.out.one hO6
            obtain ⟨g6, k6, rfl, _, _, _, _⟩ := own_form own6 (by decide)
            replace h5 := h5.later hb
            have h6 := Bs.of_own own6
            clear hO6 own6
            refine hK.out _ _ ?_ (fun hHeld2 => ?_)
            · exact KL1.out _ _ hHeld hb
            · clear hK K hHeld
              have hHeld := hHeld2
              clear hHeld2
              try simp only [Act.put, List.setIfInBounds_toArray, List.set_cons_zero, List.set_cons_succ]
              clear hb
              refine wpAnyH_ready (rs := [8]) (by kernel_rfl) (by simp) ?_
              refine AllReadyH.cons rfl (fun K hK => ?_) ?_
              · have cy := conv_any h6
                go_simp
                refine hK.out _ _ ?_ (fun hHeld2 => ?_)
                · exact hHeld
                · clear hK K hHeld
                  have hHeld := hHeld2
                  clear hHeld2
                  try simp only [Act.put, List.setIfInBounds_toArray, List.set_cons_zero, List.set_cons_succ]
                  clear cy
                  refine wpAnyH_take (i := 9) (v := ?_) rfl (by kernel_rfl) (by kernel_rfl) (by kernel_rfl) (fun _ _ _ h => h) (Or.inl ⟨by kernel_rfl, ?_⟩) (by assumption) ?_
                  rotate_left
                  · intro w hSw
                    go_simp
                    with_reducible rfl
                  try simp only [Act.put, List.setIfInBounds_toArray, List.set_cons_zero, List.set_cons_succ]
                  refine wpAnyH_ready (rs := [10]) (by kernel_rfl) (by simp) ?_
                  refine AllReadyH.cons rfl (fun K hK => ?_) ?_
                  · go_simp
                    refine hK.out _ _ ?_ (fun hHeld2 => ?_)
                    · exact hHeld
                    · clear hK K hHeld
                      have hHeld := hHeld2
                      clear hHeld2
                      try simp only [Act.put, List.setIfInBounds_toArray, List.set_cons_zero, List.set_cons_succ]
                      refine wpAnyH_done (by kernel_rfl) ?_ _
                      refine NoPanic.normal ?_
                      go_wp2_with fail
                      go_ret
                      exact ⟨rfl, below_step bel (KB1.out _ hHeld)⟩
                  exact AllReadyH.nil
              exact AllReadyH.nil
          exact AllReadyH.nil
      refine AllReadyH.cons rfl (fun K hK => ?_) ?_
      · go_simp
        go_fit (r8_Hmac (HK.later (KB1.out _ hHeld)) HT.out (hD.later (KB1.out _ hHeld)) bD.out (by have := lD.out; omega) (hE.later (KB1.out _ hHeld)) bE.out (by have := lE.out; omega))
        rintro e wb ⟨v6, rfl, ⟨O6, hO6, own6⟩, hb⟩
        obtain rfl := HO.out.one hO6
        obtain ⟨g6, k6, rfl, _, _, _, _⟩ := own_form own6 (by decide)
        replace h5 := h5.later hb
        have h6 := Bs.of_own own6
        clear hO6 own6
        refine hK.out _ _ ?_ (fun hHeld2 => ?_)
        · exact KL1.out _ _ hHeld hb
        · clear hK K hHeld
          have hHeld := hHeld2
          clear hHeld2
          try simp only [Act.put, List.setIfInBounds_toArray, List.set_cons_zero, List.set_cons_succ]
          clear hb
          refine wpAnyH_ready (rs := [3, 8]) (by kernel_rfl) (by simp) ?_
          refine AllReadyH.cons rfl (fun K hK => ?_) ?_
          · have cy := conv_any h5
            go_simp
            refine hK.out _ _ ?_ (fun hHeld2 => ?_)
            · exact hHeld
            · clear hK K hHeld
              have hHeld := hHeld2
              clear hHeld2
              try simp only [Act.put, List.setIfInBounds_toArray, List.set_cons_zero, List.set_cons_succ]
              clear cy
              refine wpAnyH_ready (rs := [8]) (by kernel_rfl) (by simp) ?_
              refine AllReadyH.cons rfl (fun K hK => ?_) ?_
              · have cy := conv_any h6
                go_simp
                refine hK.out _ _ ?_ (fun hHeld2 => ?_)
                · exact hHeld
                · clear hK K hHeld
                  have hHeld := hHeld2
                  clear hHeld2
                  try simp only [Act.put, List.setIfInBounds_toArray, List.set_cons_zero, List.set_cons_succ]
                  clear cy
                  refine wpAnyH_take (i := 9) (v := ?_) rfl (by kernel_rfl) (by kernel_rfl) (by kernel_rfl) (fun _ _ _ h => h) (Or.inl ⟨by kernel_rfl, ?_⟩) (by assumption) ?_
                  rotate_left
                  · intro w hSw
                    go_simp
                    with_reducible rfl
                  try simp only [Act.put, List.setIfInBounds_toArray, List.set_cons_zero, List.set_cons_succ]
                  refine wpAnyH_ready (rs := [10]) (by kernel_rfl) (by simp) ?_
                  refine AllReadyH.cons rfl (fun K hK => ?_) ?_
                  · go_simp
                    refine hK.out _ _ ?_ (fun hHeld2 => ?_)
                    · exact hHeld
                    · clear hK K hHeld
                      have hHeld := hHeld2
                      clear hHeld2
                      try simp only [Act.put, List.setIfInBounds_toArray, List.set_cons_zero, List.set_cons_succ]
                      refine wpAnyH_done (by kernel_rfl) ?_ _
                      refine NoPanic.normal ?_
                      go_wp2_with fail
                      go_ret
                      exact ⟨rfl, below_step bel (KB1.out _ hHeld)⟩
                  exact AllReadyH.nil
              exact AllReadyH.nil
          refine AllReadyH.cons rfl (fun K hK => ?_) ?_
          · have cy := conv_any h6
            go_simp
            refine hK.out _ _ ?_ (fun hHeld2 => ?_)
            · exact hHeld
            · clear hK K hHeld
              have hHeld := hHeld2
              clear hHeld2
              try simp only [Act.put, List.setIfInBounds_toArray, List.set_cons_zero, List.set_cons_succ]
              clear cy
              refine wpAnyH_ready (rs := [3]) (by kernel_rfl) (by simp) ?_
              refine AllReadyH.cons rfl (fun K hK => ?_) ?_
              · have cy := conv_any h5
                go_simp
                refine hK.out _ _ ?_ (fun hHeld2 => ?_)
                · exact hHeld
                · clear hK K hHeld
                  have hHeld := hHeld2
                  clear hHeld2
                  try simp only [Act.put, List.setIfInBounds_toArray, List.set_cons_zero, List.set_cons_succ]
                  clear cy
                  refine wpAnyH_take (i := 9) (v := ?_) rfl (by kernel_rfl) (by kernel_rfl) (by kernel_rfl) (fun _ _ _ h => h) (Or.inl ⟨by kernel_rfl, ?_⟩) (by assumption) ?_
                  rotate_left
                  · intro w hSw
                    go_simp
                    with_reducible rfl
                  try simp only [Act.put, List.setIfInBounds_toArray, List.set_cons_zero, List.set_cons_succ]
                  refine wpAnyH_ready (rs := [10]) (by kernel_rfl) (by simp) ?_
                  refine AllReadyH.cons rfl (fun K hK => ?_) ?_
                  · go_simp
                    refine hK.out _ _ ?_ (fun hHeld2 => ?_)
                    · exact hHeld
                    · clear hK K hHeld
                      have hHeld := hHeld2
                      clear hHeld2
                      try simp only [Act.put, List.setIfInBounds_toArray, List.set_cons_zero, List.set_cons_succ]
                      refine wpAnyH_done (by kernel_rfl) ?_ _
                      refine NoPanic.normal ?_
                      go_wp2_with fail
                      go_ret
                      exact ⟨rfl, below_step bel (KB1.out _ hHeld)⟩
                  exact AllReadyH.nil
              exact AllReadyH.nil
          exact AllReadyH.nil
      exact AllReadyH.nil
  exact AllReadyH.nil
end Go.Proofs.YtbglkbfnhnmodaaDoor
