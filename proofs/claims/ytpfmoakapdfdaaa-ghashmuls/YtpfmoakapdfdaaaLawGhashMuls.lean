/- The law GhashMuls answers true: the product of any two blocks. -/
import Derived.Test.YtpfmoakapdfdaaaRows
import Derived.Test.YtpfmoakapdfdaaaGhLaw
import Derived.Test.YtpfmoakapdfdaaaGhMul
import Derived.Laws.CopyOwn
import Derived.Deep.WholeRow
import Derived.Deep.RegionHeld3
import Derived.Deep.DeepCutAuto
import Derived.Deep.DeepFit
namespace Go.Proofs.Ytpfmoakapdfdaaa
open Go.RowKit

theorem r10_MulL {A B : List Int} {F G K : List Value} {w : World} (hF : u8s A = F) (hG : u8s B = G) (hK : u8s (mulB A B) = K) (lA : A.length = 16) (bA : byt A) (lB : B.length = 16) (bB : byt B) :
    Calls Try.prog 10 #[.agg F.toArray, .agg G.toArray] w fun e w' => e = .returned (.agg K.toArray) ∧ Below w.heap.size w w' := by
  subst hF hG hK
  exact r10_Mul lA bA lB bB
set_option linter.unusedSimpArgs false in
set_option maxRecDepth 100000 in
set_option maxHeartbeats 4000000 in
theorem law_ghashMuls (A : List Int) (B : List Int) (w : World) (lA : A.length = 16) (bA : byt A) (lB : B.length = 16) (bB : byt B) :
    Calls Try.prog 3 #[.agg (u8s A).toArray, .agg (u8s B).toArray] w fun e w' => e = .returned (.bool true) ∧ Below w.heap.size w w' := by
  obtain ⟨FA, hFA⟩ : ∃ F, u8s (A) = F := ⟨_, rfl⟩
  have FAh : Hid (u8s (A) = FA) := hFA
  have FAl : Hid (FA.length = 16) := by rw [← hFA, List.length_map]; exact lA
  obtain ⟨FB, hFB⟩ : ∃ F, u8s (B) = F := ⟨_, rfl⟩
  have FBh : Hid (u8s (B) = FB) := hFB
  have FBl : Hid (FB.length = 16) := by rw [← hFB, List.length_map]; exact lB
  obtain ⟨K, hK⟩ : ∃ F, u8s (mulB A B) = F := ⟨_, rfl⟩
  have Kh : Hid (u8s (mulB A B) = K) := hK
  have Kl : Hid (K.length = 16) := by rw [← hK, List.length_map]; exact mulB_len A B
  obtain ⟨O1, hO1⟩ : ∃ F, u8s (oneB) = F := ⟨_, rfl⟩
  have O1h : Hid (u8s (oneB) = O1) := hO1
  have O1l : Hid (O1.length = 16) := by rw [← hO1, List.length_map]; exact rfl
  have HA : Hid (byt A ∧ A.length = 16) := ⟨bA, lA⟩
  have HB : Hid (byt B ∧ B.length = 16) := ⟨bB, lB⟩
  rw [hFA, hFB]
  clear hFA hFB hK hO1 lA lB bA bB
  have B0 := (Blk.new w FA 22 w.heap.size rfl).alloc (.cells FB.toArray 22)
  have B1 := Blk.new (w.alloc (.cells FA.toArray 22)) FB 22 (w.heap.size + 1) (by simp)
  have bel : Below w.heap.size w ((w.alloc (.cells FA.toArray 22)).alloc (.cells FB.toArray 22)) := (((Below.refl _ _).alloc (Nat.le_refl _) _).alloc (by simp) _)
  go_enter Try.func3, Try.ntmps3
  go_upto_region 1 with fail
  generalize ((w.alloc (.cells FA.toArray 22)).alloc (.cells FB.toArray 22)) = W at *
  obtain ⟨S1, hS1, KL1, KA1, KD1, KS1, KQ1, KN1, KB1, KM1, KR1⟩ := held3 (w0 := w) (W := W) [(w.heap.size, FA), (w.heap.size + 1, FB)] (by
    intro b X h
    simp only [List.mem_cons, List.not_mem_nil, or_false, Prod.mk.injEq] at h
    rcases h with ⟨rfl, rfl⟩ | ⟨rfl, rfl⟩
    · exact B0
    · exact B1) bel
  have r0 : Hid (∀ wx, Hd S1 wx → (loadVar 22 ⟨w.heap.size, 0, none⟩).run Try.prog wx = .ok (.agg FA.toArray) wx) := fun wx h => (KM1.out wx (w.heap.size) _ h (List.Mem.head _)).load Try.underlying22 rfl size_16 FAl.out
  have r1 : Hid (∀ wx, Hd S1 wx → (loadVar 22 ⟨w.heap.size + 1, 0, none⟩).run Try.prog wx = .ok (.agg FB.toArray) wx) := fun wx h => (KM1.out wx (w.heap.size + 1) _ h (List.Mem.tail _ (List.Mem.head _))).load Try.underlying22 rfl size_16 FBl.out
  have q1 : ∀ w : World, (Op.equalIn 10000 22 (.agg O1.toArray) (.agg O1.toArray)).run Try.prog w = .ok true w := eql_same16 O1h.out O1l.out
  have q2 : ∀ w : World, (Op.equalIn 10000 22 (.agg K.toArray) (.agg K.toArray)).run Try.prog w = .ok true w := eql_same16 Kh.out Kl.out
  clear KS1 KQ1 KN1 KR1 KA1 KM1 B0 B1 bel
  refine wp_region_noPanic ?_
  refine wp_region_held_drew (S := Hd S1) (by kernel_rfl) (KD1.out _ hS1) (fun hHeld => ?_)
  clear hS1
  generalize World.drew _ = wd at *
  refine wpAnyH_ready (rs := [0]) (by kernel_rfl) (by simp) ?_
  refine AllReadyH.cons rfl (fun K hK => ?_) ?_
  · go_simp
    go_fit (con_oneL O1h.out)
    rintro e w1 ⟨rfl, hb⟩
    refine hK.out _ _ ?_ (fun hHeld2 => ?_)
    · exact KL1.out _ _ hHeld hb
    · clear hK K hHeld
      have hHeld := hHeld2
      clear hHeld2
      try simp only [Act.put, List.getElem_toArray, List.getElem_cons_zero, List.getElem_cons_succ, List.setIfInBounds_toArray, List.set_cons_zero, List.set_cons_succ]
      clear hb
      refine wpAnyH_ready (rs := [1]) (by kernel_rfl) (by simp) ?_
      refine AllReadyH.cons rfl (fun K hK => ?_) ?_
      · go_simp
        go_fit (con_oneL O1h.out)
        rintro e w2 ⟨rfl, hb⟩
        refine hK.out _ _ ?_ (fun hHeld2 => ?_)
        · exact KL1.out _ _ hHeld hb
        · clear hK K hHeld
          have hHeld := hHeld2
          clear hHeld2
          try simp only [Act.put, List.getElem_toArray, List.getElem_cons_zero, List.getElem_cons_succ, List.setIfInBounds_toArray, List.set_cons_zero, List.set_cons_succ]
          clear hb
          refine wpAnyH_ready (rs := [2]) (by kernel_rfl) (by simp) ?_
          refine AllReadyH.cons rfl (fun K hK => ?_) ?_
          · go_simp
            go_fit (con_Mul1 O1h.out)
            rintro e w3 ⟨rfl, hb⟩
            refine hK.out _ _ ?_ (fun hHeld2 => ?_)
            · exact KL1.out _ _ hHeld hb
            · clear hK K hHeld
              have hHeld := hHeld2
              clear hHeld2
              try simp only [Act.put, List.getElem_toArray, List.getElem_cons_zero, List.getElem_cons_succ, List.setIfInBounds_toArray, List.set_cons_zero, List.set_cons_succ]
              clear hb
              refine wpAnyH_ready (rs := [3]) (by kernel_rfl) (by simp) ?_
              refine AllReadyH.cons rfl (fun K hK => ?_) ?_
              · go_simp
                go_fit (con_oneL O1h.out)
                rintro e w4 ⟨rfl, hb⟩
                refine hK.out _ _ ?_ (fun hHeld2 => ?_)
                · exact KL1.out _ _ hHeld hb
                · clear hK K hHeld
                  have hHeld := hHeld2
                  clear hHeld2
                  try simp only [Act.put, List.getElem_toArray, List.getElem_cons_zero, List.getElem_cons_succ, List.setIfInBounds_toArray, List.set_cons_zero, List.set_cons_succ]
                  clear hb
                  refine wpAnyH_take (i := 4) (v := ?_) rfl (by kernel_rfl) (by kernel_rfl) (by kernel_rfl) (fun _ _ _ h => h) (Or.inl ⟨by rfl, ?_⟩) (by assumption) ?_
                  rotate_left
                  · intro w hSw
                    go_simp
                    with_reducible rfl
                  try simp only [Act.put, List.getElem_toArray, List.getElem_cons_zero, List.getElem_cons_succ, List.setIfInBounds_toArray, List.set_cons_zero, List.set_cons_succ]
                  refine wpAnyH_take (i := 5) (v := ?_) rfl (by kernel_rfl) (by kernel_rfl) (by kernel_rfl) (fun _ _ _ h => h) (Or.inl ⟨by rfl, ?_⟩) (by assumption) ?_
                  rotate_left
                  · intro w hSw
                    go_simp
                    with_reducible rfl
                  try simp only [Act.put, List.getElem_toArray, List.getElem_cons_zero, List.getElem_cons_succ, List.setIfInBounds_toArray, List.set_cons_zero, List.set_cons_succ]
                  refine wpAnyH_take (i := 6) (v := .agg FA.toArray) rfl (by kernel_rfl) (by kernel_rfl) (by kernel_rfl) (fun _ _ _ h => h) (Or.inl ⟨by rfl, fun wx h => exec_load rfl rfl (r0.out wx h)⟩) (by assumption) ?_
                  try simp only [Act.put, List.getElem_toArray, List.getElem_cons_zero, List.getElem_cons_succ, List.setIfInBounds_toArray, List.set_cons_zero, List.set_cons_succ]
                  refine wpAnyH_take (i := 7) (v := .agg FB.toArray) rfl (by kernel_rfl) (by kernel_rfl) (by kernel_rfl) (fun _ _ _ h => h) (Or.inl ⟨by rfl, fun wx h => exec_load rfl rfl (r1.out wx h)⟩) (by assumption) ?_
                  try simp only [Act.put, List.getElem_toArray, List.getElem_cons_zero, List.getElem_cons_succ, List.setIfInBounds_toArray, List.set_cons_zero, List.set_cons_succ]
                  refine wpAnyH_take (i := 9) (v := .agg FA.toArray) rfl (by kernel_rfl) (by kernel_rfl) (by kernel_rfl) (fun _ _ _ h => h) (Or.inl ⟨by rfl, fun wx h => exec_load rfl rfl (r0.out wx h)⟩) (by assumption) ?_
                  try simp only [Act.put, List.getElem_toArray, List.getElem_cons_zero, List.getElem_cons_succ, List.setIfInBounds_toArray, List.set_cons_zero, List.set_cons_succ]
                  refine wpAnyH_take (i := 10) (v := .agg FB.toArray) rfl (by kernel_rfl) (by kernel_rfl) (by kernel_rfl) (fun _ _ _ h => h) (Or.inl ⟨by rfl, fun wx h => exec_load rfl rfl (r1.out wx h)⟩) (by assumption) ?_
                  try simp only [Act.put, List.getElem_toArray, List.getElem_cons_zero, List.getElem_cons_succ, List.setIfInBounds_toArray, List.set_cons_zero, List.set_cons_succ]
                  refine wpAnyH_ready (rs := [8]) (by kernel_rfl) (by simp) ?_
                  refine AllReadyH.cons rfl (fun K hK => ?_) ?_
                  · go_simp
                    go_fit (con_MulL FAh.out FBh.out Kh.out HA.out.2 HA.out.1 HB.out.2 HB.out.1)
                    rintro e w5 ⟨rfl, hb⟩
                    refine hK.out _ _ ?_ (fun hHeld2 => ?_)
                    · exact KL1.out _ _ hHeld hb
                    · clear hK K hHeld
                      have hHeld := hHeld2
                      clear hHeld2
                      try simp only [Act.put, List.getElem_toArray, List.getElem_cons_zero, List.getElem_cons_succ, List.setIfInBounds_toArray, List.set_cons_zero, List.set_cons_succ]
                      clear hb
                      refine wpAnyH_ready (rs := [11]) (by kernel_rfl) (by simp) ?_
                      refine AllReadyH.cons rfl (fun K hK => ?_) ?_
                      · go_simp
                        go_fit (r10_MulL FAh.out FBh.out Kh.out HA.out.2 HA.out.1 HB.out.2 HB.out.1)
                        rintro e w6 ⟨rfl, hb⟩
                        refine hK.out _ _ ?_ (fun hHeld2 => ?_)
                        · exact KL1.out _ _ hHeld hb
                        · clear hK K hHeld
                          have hHeld := hHeld2
                          clear hHeld2
                          try simp only [Act.put, List.getElem_toArray, List.getElem_cons_zero, List.getElem_cons_succ, List.setIfInBounds_toArray, List.set_cons_zero, List.set_cons_succ]
                          clear hb
                          refine wpAnyH_take (i := 12) (v := ?_) rfl (by kernel_rfl) (by kernel_rfl) (by kernel_rfl) (fun _ _ _ h => h) (Or.inl ⟨by rfl, ?_⟩) (by assumption) ?_
                          rotate_left
                          · intro w hSw
                            go_simp
                            with_reducible rfl
                          try simp only [Act.put, List.getElem_toArray, List.getElem_cons_zero, List.getElem_cons_succ, List.setIfInBounds_toArray, List.set_cons_zero, List.set_cons_succ]
                          refine wpAnyH_take (i := 13) (v := ?_) rfl (by kernel_rfl) (by kernel_rfl) (by kernel_rfl) (fun _ _ _ h => h) (Or.inl ⟨by rfl, ?_⟩) (by assumption) ?_
                          rotate_left
                          · intro w hSw
                            go_simp
                            with_reducible rfl
                          try simp only [Act.put, List.getElem_toArray, List.getElem_cons_zero, List.getElem_cons_succ, List.setIfInBounds_toArray, List.set_cons_zero, List.set_cons_succ]
                          refine wpAnyH_ready (rs := [14]) (by kernel_rfl) (by simp) ?_
                          refine AllReadyH.cons rfl (fun K hK => ?_) ?_
                          · go_simp
                            refine hK.out _ _ ?_ (fun hHeld2 => ?_)
                            · exact hHeld
                            · clear hK K hHeld
                              have hHeld := hHeld2
                              clear hHeld2
                              try simp only [Act.put, List.getElem_toArray, List.getElem_cons_zero, List.getElem_cons_succ, List.setIfInBounds_toArray, List.set_cons_zero, List.set_cons_succ]
                              refine wpAnyH_done (by kernel_rfl) ?_ _
                              refine NoPanic.normal ?_
                              go_wp2_with fail
                              go_ret
                              exact ⟨rfl, KB1.out _ hHeld⟩
                          exact AllReadyH.nil
                      exact AllReadyH.nil
                  exact AllReadyH.nil
              exact AllReadyH.nil
          exact AllReadyH.nil
      exact AllReadyH.nil
  exact AllReadyH.nil
end Go.Proofs.Ytpfmoakapdfdaaa
