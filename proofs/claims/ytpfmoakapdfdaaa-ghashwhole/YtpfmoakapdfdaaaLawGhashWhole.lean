/- The law GhashWhole answers true: the sum of any two with their lengths. -/
import Derived.Test.YtpfmoakapdfdaaaRows
import Derived.Test.YtpfmoakapdfdaaaGhCut
import Derived.Test.YtpfmoakapdfdaaaGhWhole
import Derived.Laws.CopyOwn
import Derived.Deep.WholeRow
import Derived.Deep.RegionHeld3
import Derived.Deep.DeepCutAuto
import Derived.Deep.DeepFit
namespace Go.Proofs.Ytpfmoakapdfdaaa
open Go.RowKit

theorem con_WholeL {H A B : List Int} {F G : List Value} {av bv : Value} {w : World} (hF : u8s H = F) (hG : u8s (wholeB H A B) = G) (lH : H.length = 16) (bH : byt H) (ha : Bs w av A) (bA : byt A) (hb : Bs w bv B) (bB : byt B) (lA : A.length ≤ 100000000000) (lB : B.length ≤ 100000000000) :
    Calls Try.prog 15 #[.agg F.toArray, av, bv] w fun e w' => e = .returned (.agg G.toArray) ∧ Below w.heap.size w w' := by
  subst hF hG
  exact con_Whole lH bH ha bA hb bB lA lB
theorem r10_WholeL {H A B : List Int} {F G : List Value} {av bv : Value} {w : World} (hF : u8s H = F) (hG : u8s (wholeB H A B) = G) (lH : H.length = 16) (bH : byt H) (ha : Bs w av A) (bA : byt A) (hb : Bs w bv B) (bB : byt B) (lA : A.length ≤ 100000000000) (lB : B.length ≤ 100000000000) :
    Calls Try.prog 16 #[.agg F.toArray, av, bv] w fun e w' => e = .returned (.agg G.toArray) ∧ Below w.heap.size w w' := by
  subst hF hG
  exact r10_Whole lH bH ha bA hb bB lA lB
set_option linter.unusedSimpArgs false in
set_option maxRecDepth 100000 in
set_option maxHeartbeats 4000000 in
theorem law_ghashWhole (H : List Int) (av : Value) (A : List Int) (bv : Value) (B : List Int) (w : World) (lH : H.length = 16) (bH : byt H) (ha : Bs w av A) (bA : byt A) (hb : Bs w bv B) (bB : byt B) :
    Calls Try.prog 6 #[.agg (u8s H).toArray, av, bv] w fun e w' => e = .returned (.bool true) ∧ Below w.heap.size w w' := by
  obtain ⟨FH, hFH⟩ : ∃ F, u8s (H) = F := ⟨_, rfl⟩
  have FHh : Hid (u8s (H) = FH) := hFH
  have FHl : Hid (FH.length = 16) := by rw [← hFH, List.length_map]; exact lH
  obtain ⟨O1, hO1⟩ : ∃ F, u8s (oneB) = F := ⟨_, rfl⟩
  have O1h : Hid (u8s (oneB) = O1) := hO1
  have O1l : Hid (O1.length = 16) := by rw [← hO1, List.length_map]; exact rfl
  have HH : Hid (byt H ∧ H.length = 16) := ⟨bH, lH⟩
  have HBA : Hid (byt A) := bA
  have HBB : Hid (byt B) := bB
  have hz := zero_16.out
  obtain ⟨cs, hcs⟩ : ∃ z, (u8s (List.replicate 16 (0 : Int))).toArray = z := ⟨_, rfl⟩
  have HZ : Hid (cs.size = 16) := by rw [← hcs]; rfl
  rw [hcs] at hz
  clear hcs
  rw [hFH]
  clear hFH hO1 lH bH bB bA
  have B0 := Blk.new w FH 22 w.heap.size rfl
  have bel : Below w.heap.size w (w.alloc (.cells FH.toArray 22)) := (Below.refl _ _).alloc (Nat.le_refl _) _
  go_enter Try.func6, Try.ntmps6
  go_upto_region 1 with fail
  generalize w.alloc (Obj.cells FH.toArray 22) = W at *
  replace ha := ha.later bel
  replace hb := hb.later bel
  go_wp2_with fail
  refine (con_cut ha).mono ?_
  rintro e wz ⟨v1, rfl, hC, hz9⟩
  rw [hz9]
  clear hz9 wz ha
  obtain ⟨C, eC⟩ : ∃ z, A.take 600 = z := ⟨_, rfl⟩
  rw [eC] at hC
  have bC : Hid (byt C) := by rw [← eC]; exact byt_takeG HBA.out 600
  have lC : C.length ≤ 600 := by rw [← eC, List.length_take]; omega
  clear eC
  go_wp2_with fail
  refine (con_cut hb).mono ?_
  rintro e wz ⟨v2, rfl, hD, hz9⟩
  rw [hz9]
  clear hz9 wz hb
  obtain ⟨D, eD⟩ : ∃ z, B.take 600 = z := ⟨_, rfl⟩
  rw [eD] at hD
  have bD : Hid (byt D) := by rw [← eD]; exact byt_takeG HBB.out 600
  have lD : D.length ≤ 600 := by rw [← eD, List.length_take]; omega
  clear eD
  have hC0 := hC
  obtain ⟨aC, cC, rfl, c1, c2, c3⟩ := hC0
  clear c3
  unfold maxLen at c1
  have hD0 := hD
  obtain ⟨aD, cD, rfl, d1, d2, d3⟩ := hD0
  clear d3
  unfold maxLen at d1
  obtain ⟨Y, hY⟩ : ∃ F, u8s (wholeB H C D) = F := ⟨_, rfl⟩
  have Yh : Hid (u8s (wholeB H C D) = Y) := hY
  have Yl : Hid (Y.length = 16) := by rw [← hY, List.length_map]; exact hashB_len _ _
  have Yo : Hid (Y.toArray.all (·.oneCell') = true) := by rw [← hY]; exact u8_ones _
  clear hY
  have HLC : Hid (C.length ≤ 100000000000) := by show _ ≤ _; omega
  have HLD : Hid (D.length ≤ 100000000000) := by show _ ≤ _; omega
  go_wp2_with (first | (refine wpList_load_run (by rfl) (by rfl) (by rfl) (B0.load Try.underlying22 rfl size_16 FHl.out) ?_) | fail)
  refine (con_WholeL FHh.out Yh.out HH.out.2 HH.out.1 hC bC.out hD bD.out HLC.out HLD.out).mono ?_
  rintro e w3 ⟨rfl, hx⟩
  replace hD := hD.later hx
  replace hC := hC.later hx
  replace B0 := B0.later hx
  replace bel := below_step bel hx
  clear hx
  go_upto_region 4 with (first | (refine wpList_store_row rfl 22 _ _ rfl w3.heap.size Y.toArray rfl rfl 22 cs (heap_alloc_last _ _) (by rw [size_16, List.size_toArray, Yl.out]) (by rw [HZ.out, List.size_toArray, Yl.out]) Yo.out ?_; rw [World.setRow_alloc_new]) | fail)
  have BY := Blk.new w3 Y 22 w3.heap.size rfl
  replace B0 := B0.alloc (.cells Y.toArray 22)
  replace hD := hD.later ((Below.refl _ _).alloc (Nat.le_refl _) (.cells Y.toArray 22))
  replace hC := hC.later ((Below.refl _ _).alloc (Nat.le_refl _) (.cells Y.toArray 22))
  replace bel := below_alloc (o := .cells Y.toArray 22) bel
  obtain ⟨gy, hgy⟩ : ∃ b, b = w3.heap.size := ⟨_, rfl⟩
  generalize w3.alloc (Obj.cells Y.toArray 22) = W4 at *
  rw [← hgy] at BY ⊢
  clear hgy hz
  obtain ⟨S1, hS1, KL1, KA1, KD1, KS1, KQ1, KN1, KB1, KM1, KR1⟩ := held3 (w0 := W4) (W := W4) [(w.heap.size, FH), (gy, Y)] (by
    intro b X h
    simp only [List.mem_cons, List.not_mem_nil, or_false, Prod.mk.injEq] at h
    rcases h with ⟨rfl, rfl⟩ | ⟨rfl, rfl⟩
    · exact B0
    · exact BY) (Below.refl _ _)
  have rH : Hid (∀ wx, Hd S1 wx → (loadVar 22 ⟨w.heap.size, 0, none⟩).run Try.prog wx = .ok (.agg FH.toArray) wx) := fun wx h => (KM1.out wx (w.heap.size) _ h (List.Mem.head _)).load Try.underlying22 rfl size_16 FHl.out
  have rY : Hid (∀ wx, Hd S1 wx → (loadVar 22 ⟨gy, 0, none⟩).run Try.prog wx = .ok (.agg Y.toArray) wx) := fun wx h => (KM1.out wx (gy) _ h (List.Mem.tail _ (List.Mem.head _))).load Try.underlying22 rfl size_16 Yl.out
  have q1 : ∀ w : World, (Op.equalIn 10000 22 (.agg Y.toArray) (.agg Y.toArray)).run Try.prog w = .ok true w := eql_same16 Yh.out Yl.out
  have q2 : ∀ w : World, (Op.equalIn 10000 22 (.agg O1.toArray) (.agg O1.toArray)).run Try.prog w = .ok true w := eql_same16 O1h.out O1l.out
  clear KS1 KQ1 KN1 KR1 KM1 B0 BY
  refine wp_region_noPanic ?_
  refine wp_region_held_drew (S := Hd S1) (by kernel_rfl) (KD1.out _ hS1) (fun hHeld => ?_)
  clear hS1
  generalize World.drew _ = wd at *
  refine wpAnyH_take (i := 0) (v := .agg Y.toArray) rfl (by kernel_rfl) (by kernel_rfl) (by kernel_rfl) (fun _ _ _ h => h) (Or.inl ⟨by rfl, fun wx h => exec_load rfl rfl (rY.out wx h)⟩) (by assumption) ?_
  try simp only [Act.put, List.getElem_toArray, List.getElem_cons_zero, List.getElem_cons_succ, List.setIfInBounds_toArray, List.set_cons_zero, List.set_cons_succ]
  refine wpAnyH_take (i := 1) (v := .agg FH.toArray) rfl (by kernel_rfl) (by kernel_rfl) (by kernel_rfl) (fun _ _ _ h => h) (Or.inl ⟨by rfl, fun wx h => exec_load rfl rfl (rH.out wx h)⟩) (by assumption) ?_
  try simp only [Act.put, List.getElem_toArray, List.getElem_cons_zero, List.getElem_cons_succ, List.setIfInBounds_toArray, List.set_cons_zero, List.set_cons_succ]
  refine wpAnyH_take (i := 2) (v := ?_) rfl (by kernel_rfl) (by kernel_rfl) (by kernel_rfl) (fun _ _ _ h => h) (Or.inl ⟨by rfl, ?_⟩) (by assumption) ?_
  rotate_left
  · intro w hSw
    go_simp
    with_reducible rfl
  try simp only [Act.put, List.getElem_toArray, List.getElem_cons_zero, List.getElem_cons_succ, List.setIfInBounds_toArray, List.set_cons_zero, List.set_cons_succ]
  refine wpAnyH_take (i := 3) (v := ?_) rfl (by kernel_rfl) (by kernel_rfl) (by kernel_rfl) (fun _ _ _ h => h) (Or.inl ⟨by rfl, ?_⟩) (by assumption) ?_
  rotate_left
  · intro w hSw
    go_simp
    with_reducible rfl
  try simp only [Act.put, List.getElem_toArray, List.getElem_cons_zero, List.getElem_cons_succ, List.setIfInBounds_toArray, List.set_cons_zero, List.set_cons_succ]
  refine wpAnyH_ready (rs := [4]) (by kernel_rfl) (by simp) ?_
  refine AllReadyH.cons rfl (fun K hK => ?_) ?_
  · go_simp
    go_fit (r10_WholeL FHh.out Yh.out HH.out.2 HH.out.1 (hC.later (KB1.out _ hHeld)) bC.out (hD.later (KB1.out _ hHeld)) bD.out HLC.out HLD.out)
    rintro e w5 ⟨rfl, hb⟩
    refine hK.out _ _ ?_ (fun hHeld2 => ?_)
    · exact KL1.out _ _ hHeld hb
    · clear hK K hHeld
      have hHeld := hHeld2
      clear hHeld2
      try simp only [Act.put, List.getElem_toArray, List.getElem_cons_zero, List.getElem_cons_succ, List.setIfInBounds_toArray, List.set_cons_zero, List.set_cons_succ]
      clear hb
      refine wpAnyH_take (i := 5) (v := ?_) rfl (by kernel_rfl) (by kernel_rfl) (by kernel_rfl) (fun _ _ _ h => h) (Or.inl ⟨by rfl, ?_⟩) (by assumption) ?_
      rotate_left
      · intro w hSw
        go_simp
        with_reducible rfl
      try simp only [Act.put, List.getElem_toArray, List.getElem_cons_zero, List.getElem_cons_succ, List.setIfInBounds_toArray, List.set_cons_zero, List.set_cons_succ]
      refine wpAnyH_take (i := 6) (v := ?_) rfl (by kernel_rfl) (by kernel_rfl) (by kernel_rfl) (fun _ _ _ h => h) (Or.inl ⟨by rfl, ?_⟩) (by assumption) ?_
      rotate_left
      · intro w hSw
        go_simp
        with_reducible rfl
      try simp only [Act.put, List.getElem_toArray, List.getElem_cons_zero, List.getElem_cons_succ, List.setIfInBounds_toArray, List.set_cons_zero, List.set_cons_succ]
      refine wpAnyH_ready (rs := [7, 8]) (by kernel_rfl) (by simp) ?_
      refine AllReadyH.cons rfl (fun K hK => ?_) ?_
      · go_simp
        go_fit (con_oneL O1h.out)
        rintro e w6 ⟨rfl, hb⟩
        refine hK.out _ _ ?_ (fun hHeld2 => ?_)
        · exact KL1.out _ _ hHeld hb
        · clear hK K hHeld
          have hHeld := hHeld2
          clear hHeld2
          try simp only [Act.put, List.getElem_toArray, List.getElem_cons_zero, List.getElem_cons_succ, List.setIfInBounds_toArray, List.set_cons_zero, List.set_cons_succ]
          clear hb
          refine wpAnyH_ready (rs := [8]) (by kernel_rfl) (by simp) ?_
          refine AllReadyH.cons rfl (fun K hK => ?_) ?_
          · go_simp
            refine hK.out _ _ ?_ (fun hHeld2 => ?_)
            · exact KA1.out _ _ hHeld
            · clear hK K hHeld
              have hHeld := hHeld2
              clear hHeld2
              try simp only [Act.put, List.getElem_toArray, List.getElem_cons_zero, List.getElem_cons_succ, List.setIfInBounds_toArray, List.set_cons_zero, List.set_cons_succ]
              have b1 := bs_one w6 128
              obtain ⟨g9, hg9⟩ : ∃ b, b = w6.heap.size := ⟨_, rfl⟩
              obtain ⟨w7, hw9⟩ : ∃ z, z = w6.alloc (Obj.cells #[.int .u8 128] 5) := ⟨_, rfl⟩
              rw [← hw9] at hHeld b1 ⊢
              rw [← hg9] at b1 ⊢
              clear hg9 hw9
              refine wpAnyH_ready (rs := [9]) (by kernel_rfl) (by simp) ?_
              refine AllReadyH.cons rfl (fun K hK => ?_) ?_
              · go_simp
                go_fit (con_Hash1 O1h.out b1)
                rintro e w8 ⟨rfl, hb⟩
                refine hK.out _ _ ?_ (fun hHeld2 => ?_)
                · exact KL1.out _ _ hHeld hb
                · clear hK K hHeld
                  have hHeld := hHeld2
                  clear hHeld2
                  try simp only [Act.put, List.getElem_toArray, List.getElem_cons_zero, List.getElem_cons_succ, List.setIfInBounds_toArray, List.set_cons_zero, List.set_cons_succ]
                  clear hb b1
                  refine wpAnyH_ready (rs := [10]) (by kernel_rfl) (by simp) ?_
                  refine AllReadyH.cons rfl (fun K hK => ?_) ?_
                  · go_simp
                    go_fit (con_oneL O1h.out)
                    rintro e w9 ⟨rfl, hb⟩
                    refine hK.out _ _ ?_ (fun hHeld2 => ?_)
                    · exact KL1.out _ _ hHeld hb
                    · clear hK K hHeld
                      have hHeld := hHeld2
                      clear hHeld2
                      try simp only [Act.put, List.getElem_toArray, List.getElem_cons_zero, List.getElem_cons_succ, List.setIfInBounds_toArray, List.set_cons_zero, List.set_cons_succ]
                      clear hb
                      refine wpAnyH_take (i := 11) (v := ?_) rfl (by kernel_rfl) (by kernel_rfl) (by kernel_rfl) (fun _ _ _ h => h) (Or.inl ⟨by rfl, ?_⟩) (by assumption) ?_
                      rotate_left
                      · intro w hSw
                        go_simp
                        with_reducible rfl
                      try simp only [Act.put, List.getElem_toArray, List.getElem_cons_zero, List.getElem_cons_succ, List.setIfInBounds_toArray, List.set_cons_zero, List.set_cons_succ]
                      refine wpAnyH_take (i := 12) (v := ?_) rfl (by kernel_rfl) (by kernel_rfl) (by kernel_rfl) (fun _ _ _ h => h) (Or.inl ⟨by rfl, ?_⟩) (by assumption) ?_
                      rotate_left
                      · intro w hSw
                        go_simp
                        with_reducible rfl
                      try simp only [Act.put, List.getElem_toArray, List.getElem_cons_zero, List.getElem_cons_succ, List.setIfInBounds_toArray, List.set_cons_zero, List.set_cons_succ]
                      refine wpAnyH_ready (rs := [13]) (by kernel_rfl) (by simp) ?_
                      refine AllReadyH.cons rfl (fun K hK => ?_) ?_
                      · go_simp
                        refine hK.out _ _ ?_ (fun hHeld2 => ?_)
                        · exact hHeld
                        · clear hK K hHeld
                          have hHeld := hHeld2
                          clear hHeld2
                          try simp only [Act.put, List.getElem_toArray, List.getElem_cons_zero, List.getElem_cons_succ, List.setIfInBounds_toArray, List.set_cons_zero, List.set_cons_succ]
                          refine wpAnyH_done (by kernel_rfl) ?_ _
                          refine NoPanic.normal ?_
                          go_wp2_with fail
                          go_ret
                          exact ⟨rfl, below_step bel (KB1.out _ hHeld)⟩
                      exact AllReadyH.nil
                  exact AllReadyH.nil
              exact AllReadyH.nil
          exact AllReadyH.nil
      refine AllReadyH.cons rfl (fun K hK => ?_) ?_
      · go_simp
        refine hK.out _ _ ?_ (fun hHeld2 => ?_)
        · exact KA1.out _ _ hHeld
        · clear hK K hHeld
          have hHeld := hHeld2
          clear hHeld2
          try simp only [Act.put, List.getElem_toArray, List.getElem_cons_zero, List.getElem_cons_succ, List.setIfInBounds_toArray, List.set_cons_zero, List.set_cons_succ]
          have b1 := bs_one w5 128
          obtain ⟨g9, hg9⟩ : ∃ b, b = w5.heap.size := ⟨_, rfl⟩
          obtain ⟨w7, hw9⟩ : ∃ z, z = w5.alloc (Obj.cells #[.int .u8 128] 5) := ⟨_, rfl⟩
          rw [← hw9] at hHeld b1 ⊢
          rw [← hg9] at b1 ⊢
          clear hg9 hw9
          refine wpAnyH_ready (rs := [7]) (by kernel_rfl) (by simp) ?_
          refine AllReadyH.cons rfl (fun K hK => ?_) ?_
          · go_simp
            go_fit (con_oneL O1h.out)
            rintro e w6 ⟨rfl, hb⟩
            refine hK.out _ _ ?_ (fun hHeld2 => ?_)
            · exact KL1.out _ _ hHeld hb
            · clear hK K hHeld
              have hHeld := hHeld2
              clear hHeld2
              try simp only [Act.put, List.getElem_toArray, List.getElem_cons_zero, List.getElem_cons_succ, List.setIfInBounds_toArray, List.set_cons_zero, List.set_cons_succ]
              replace b1 := b1.later hb
              clear hb
              refine wpAnyH_ready (rs := [9]) (by kernel_rfl) (by simp) ?_
              refine AllReadyH.cons rfl (fun K hK => ?_) ?_
              · go_simp
                go_fit (con_Hash1 O1h.out b1)
                rintro e w8 ⟨rfl, hb⟩
                refine hK.out _ _ ?_ (fun hHeld2 => ?_)
                · exact KL1.out _ _ hHeld hb
                · clear hK K hHeld
                  have hHeld := hHeld2
                  clear hHeld2
                  try simp only [Act.put, List.getElem_toArray, List.getElem_cons_zero, List.getElem_cons_succ, List.setIfInBounds_toArray, List.set_cons_zero, List.set_cons_succ]
                  clear hb b1
                  refine wpAnyH_ready (rs := [10]) (by kernel_rfl) (by simp) ?_
                  refine AllReadyH.cons rfl (fun K hK => ?_) ?_
                  · go_simp
                    go_fit (con_oneL O1h.out)
                    rintro e w9 ⟨rfl, hb⟩
                    refine hK.out _ _ ?_ (fun hHeld2 => ?_)
                    · exact KL1.out _ _ hHeld hb
                    · clear hK K hHeld
                      have hHeld := hHeld2
                      clear hHeld2
                      try simp only [Act.put, List.getElem_toArray, List.getElem_cons_zero, List.getElem_cons_succ, List.setIfInBounds_toArray, List.set_cons_zero, List.set_cons_succ]
                      clear hb
                      refine wpAnyH_take (i := 11) (v := ?_) rfl (by kernel_rfl) (by kernel_rfl) (by kernel_rfl) (fun _ _ _ h => h) (Or.inl ⟨by rfl, ?_⟩) (by assumption) ?_
                      rotate_left
                      · intro w hSw
                        go_simp
                        with_reducible rfl
                      try simp only [Act.put, List.getElem_toArray, List.getElem_cons_zero, List.getElem_cons_succ, List.setIfInBounds_toArray, List.set_cons_zero, List.set_cons_succ]
                      refine wpAnyH_take (i := 12) (v := ?_) rfl (by kernel_rfl) (by kernel_rfl) (by kernel_rfl) (fun _ _ _ h => h) (Or.inl ⟨by rfl, ?_⟩) (by assumption) ?_
                      rotate_left
                      · intro w hSw
                        go_simp
                        with_reducible rfl
                      try simp only [Act.put, List.getElem_toArray, List.getElem_cons_zero, List.getElem_cons_succ, List.setIfInBounds_toArray, List.set_cons_zero, List.set_cons_succ]
                      refine wpAnyH_ready (rs := [13]) (by kernel_rfl) (by simp) ?_
                      refine AllReadyH.cons rfl (fun K hK => ?_) ?_
                      · go_simp
                        refine hK.out _ _ ?_ (fun hHeld2 => ?_)
                        · exact hHeld
                        · clear hK K hHeld
                          have hHeld := hHeld2
                          clear hHeld2
                          try simp only [Act.put, List.getElem_toArray, List.getElem_cons_zero, List.getElem_cons_succ, List.setIfInBounds_toArray, List.set_cons_zero, List.set_cons_succ]
                          refine wpAnyH_done (by kernel_rfl) ?_ _
                          refine NoPanic.normal ?_
                          go_wp2_with fail
                          go_ret
                          exact ⟨rfl, below_step bel (KB1.out _ hHeld)⟩
                      exact AllReadyH.nil
                  exact AllReadyH.nil
              exact AllReadyH.nil
          exact AllReadyH.nil
      exact AllReadyH.nil
  exact AllReadyH.nil
end Go.Proofs.Ytpfmoakapdfdaaa
