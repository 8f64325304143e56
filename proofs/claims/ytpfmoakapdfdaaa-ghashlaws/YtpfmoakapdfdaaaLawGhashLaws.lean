/- The law GhashLaws answers true: products go either way round, and in any order, and spread over sums; 1 changes nothing. -/
import Derived.Test.YtpfmoakapdfdaaaRows
import Derived.Test.YtpfmoakapdfdaaaGhLaw
import Derived.Test.YtpfmoakapdfdaaaGhPlus
import Derived.Laws.CopyOwn
import Derived.Deep.WholeRow
import Derived.Deep.RegionHeld3
import Derived.Deep.DeepCutAuto
import Derived.Deep.DeepFit
namespace Go.Proofs.Ytpfmoakapdfdaaa
open Go.RowKit

set_option linter.unusedSimpArgs false in
set_option maxRecDepth 100000 in
set_option maxHeartbeats 4000000 in
theorem law_ghashLaws (A : List Int) (B : List Int) (C : List Int) (w : World) (lA : A.length = 16) (bA : byt A) (lB : B.length = 16) (bB : byt B) (lC : C.length = 16) (bC : byt C) :
    Calls Try.prog 4 #[.agg (u8s A).toArray, .agg (u8s B).toArray, .agg (u8s C).toArray] w fun e w' => e = .returned (.bool true) ∧ Below w.heap.size w w' := by
  obtain ⟨FA, hFA⟩ : ∃ F, u8s (A) = F := ⟨_, rfl⟩
  have FAh : Hid (u8s (A) = FA) := hFA
  have FAl : Hid (FA.length = 16) := by rw [← hFA, List.length_map]; exact lA
  obtain ⟨FB, hFB⟩ : ∃ F, u8s (B) = F := ⟨_, rfl⟩
  have FBh : Hid (u8s (B) = FB) := hFB
  have FBl : Hid (FB.length = 16) := by rw [← hFB, List.length_map]; exact lB
  obtain ⟨FC, hFC⟩ : ∃ F, u8s (C) = F := ⟨_, rfl⟩
  have FCh : Hid (u8s (C) = FC) := hFC
  have FCl : Hid (FC.length = 16) := by rw [← hFC, List.length_map]; exact lC
  obtain ⟨K1, hK1⟩ : ∃ F, u8s (mulB A B) = F := ⟨_, rfl⟩
  have K1h : Hid (u8s (mulB A B) = K1) := hK1
  have K1l : Hid (K1.length = 16) := by rw [← hK1, List.length_map]; exact mulB_len A B
  obtain ⟨K2, hK2⟩ : ∃ F, u8s (mulB (mulB A B) C) = F := ⟨_, rfl⟩
  have K2h : Hid (u8s (mulB (mulB A B) C) = K2) := hK2
  have K2l : Hid (K2.length = 16) := by rw [← hK2, List.length_map]; exact mulB_len _ _
  obtain ⟨K3, hK3⟩ : ∃ F, u8s (mulB B C) = F := ⟨_, rfl⟩
  have K3h : Hid (u8s (mulB B C) = K3) := hK3
  have K3l : Hid (K3.length = 16) := by rw [← hK3, List.length_map]; exact mulB_len _ _
  obtain ⟨K4, hK4⟩ : ∃ F, u8s (mulB A C) = F := ⟨_, rfl⟩
  have K4h : Hid (u8s (mulB A C) = K4) := hK4
  have K4l : Hid (K4.length = 16) := by rw [← hK4, List.length_map]; exact mulB_len _ _
  obtain ⟨P1, hP1⟩ : ∃ F, u8s (xkN B C) = F := ⟨_, rfl⟩
  have P1h : Hid (u8s (xkN B C) = P1) := hP1
  have P1l : Hid (P1.length = 16) := by rw [← hP1, List.length_map]; exact xk_len _ _
  obtain ⟨M1, hM1⟩ : ∃ F, u8s (mulB A (xkN B C)) = F := ⟨_, rfl⟩
  have M1h : Hid (u8s (mulB A (xkN B C)) = M1) := hM1
  have M1l : Hid (M1.length = 16) := by rw [← hM1, List.length_map]; exact mulB_len _ _
  obtain ⟨O1, hO1⟩ : ∃ F, u8s (oneB) = F := ⟨_, rfl⟩
  have O1h : Hid (u8s (oneB) = O1) := hO1
  have O1l : Hid (O1.length = 16) := by rw [← hO1, List.length_map]; exact rfl
  have K1r : Hid (u8s (mulB B A) = K1) := by rw [mulB_comm B A]; exact hK1
  have K2r : Hid (u8s (mulB A (mulB B C)) = K2) := by rw [← mulB_assoc]; exact hK2
  have M1r : Hid (u8s (xkN (mulB A B) (mulB A C)) = M1) := by rw [← mulB_spread bB bC]; exact hM1
  have FAr : Hid (u8s (mulB A oneB) = FA) := by rw [mulB_one lA bA]; exact hFA
  have HP : Hid (byt (xkN B C)) := xkN_byt bB bC
  have HA : Hid (byt A ∧ A.length = 16) := ⟨bA, lA⟩
  have HB : Hid (byt B ∧ B.length = 16) := ⟨bB, lB⟩
  have HC : Hid (byt C ∧ C.length = 16) := ⟨bC, lC⟩
  rw [hFA, hFB, hFC]
  clear hFA hFB hFC hK1 hK2 hK3 hK4 hP1 hM1 hO1 lA lB bA bB lC bC
  have B0 := ((Blk.new w FA 22 w.heap.size rfl).alloc (.cells FB.toArray 22)).alloc (.cells FC.toArray 22)
  have B1 := (Blk.new (w.alloc (.cells FA.toArray 22)) FB 22 (w.heap.size + 1) (by simp)).alloc (.cells FC.toArray 22)
  have B2 := Blk.new ((w.alloc (.cells FA.toArray 22)).alloc (.cells FB.toArray 22)) FC 22 (w.heap.size + 1 + 1) (by simp)
  have bel : Below w.heap.size w (((w.alloc (.cells FA.toArray 22)).alloc (.cells FB.toArray 22)).alloc (.cells FC.toArray 22)) := ((((Below.refl _ _).alloc (Nat.le_refl _) _).alloc (by simp) _).alloc (by simp; omega) _)
  go_enter Try.func4, Try.ntmps4
  go_upto_region 1 with fail
  generalize (((w.alloc (.cells FA.toArray 22)).alloc (.cells FB.toArray 22)).alloc (.cells FC.toArray 22)) = W at *
  obtain ⟨S1, hS1, KL1, KA1, KD1, KS1, KQ1, KN1, KB1, KM1, KR1⟩ := held3 (w0 := w) (W := W) [(w.heap.size, FA), (w.heap.size + 1, FB), (w.heap.size + 1 + 1, FC)] (by
    intro b X h
    simp only [List.mem_cons, List.not_mem_nil, or_false, Prod.mk.injEq] at h
    rcases h with ⟨rfl, rfl⟩ | ⟨rfl, rfl⟩ | ⟨rfl, rfl⟩
    · exact B0
    · exact B1
    · exact B2) bel
  have rA : Hid (∀ wx, Hd S1 wx → (loadVar 22 ⟨w.heap.size, 0, none⟩).run Try.prog wx = .ok (.agg FA.toArray) wx) := fun wx h => (KM1.out wx (w.heap.size) _ h (List.Mem.head _)).load Try.underlying22 rfl size_16 FAl.out
  have rB : Hid (∀ wx, Hd S1 wx → (loadVar 22 ⟨w.heap.size + 1, 0, none⟩).run Try.prog wx = .ok (.agg FB.toArray) wx) := fun wx h => (KM1.out wx (w.heap.size + 1) _ h (List.Mem.tail _ (List.Mem.head _))).load Try.underlying22 rfl size_16 FBl.out
  have rC : Hid (∀ wx, Hd S1 wx → (loadVar 22 ⟨w.heap.size + 1 + 1, 0, none⟩).run Try.prog wx = .ok (.agg FC.toArray) wx) := fun wx h => (KM1.out wx (w.heap.size + 1 + 1) _ h (List.Mem.tail _ (List.Mem.tail _ (List.Mem.head _)))).load Try.underlying22 rfl size_16 FCl.out
  have q0 : ∀ w : World, (Op.equalIn 10000 22 (.agg K1.toArray) (.agg K1.toArray)).run Try.prog w = .ok true w := eql_same16 K1h.out K1l.out
  clear KS1 KQ1 KN1 KR1 KA1 B0 B1 B2 bel
  refine wp_region_noPanic ?_
  refine wp_region_held_drew (S := Hd S1) (by kernel_rfl) (KD1.out _ hS1) (fun hHeld => ?_)
  clear hS1
  generalize World.drew _ = wd at *
  refine wpAnyH_take (i := 0) (v := .agg FA.toArray) rfl (by kernel_rfl) (by kernel_rfl) (by kernel_rfl) (fun _ _ _ h => h) (Or.inl ⟨by rfl, fun wx h => exec_load rfl rfl (rA.out wx h)⟩) (by assumption) ?_
  try simp only [Act.put, List.getElem_toArray, List.getElem_cons_zero, List.getElem_cons_succ, List.setIfInBounds_toArray, List.set_cons_zero, List.set_cons_succ]
  refine wpAnyH_take (i := 1) (v := .agg FB.toArray) rfl (by kernel_rfl) (by kernel_rfl) (by kernel_rfl) (fun _ _ _ h => h) (Or.inl ⟨by rfl, fun wx h => exec_load rfl rfl (rB.out wx h)⟩) (by assumption) ?_
  try simp only [Act.put, List.getElem_toArray, List.getElem_cons_zero, List.getElem_cons_succ, List.setIfInBounds_toArray, List.set_cons_zero, List.set_cons_succ]
  refine wpAnyH_take (i := 3) (v := .agg FB.toArray) rfl (by kernel_rfl) (by kernel_rfl) (by kernel_rfl) (fun _ _ _ h => h) (Or.inl ⟨by rfl, fun wx h => exec_load rfl rfl (rB.out wx h)⟩) (by assumption) ?_
  try simp only [Act.put, List.getElem_toArray, List.getElem_cons_zero, List.getElem_cons_succ, List.setIfInBounds_toArray, List.set_cons_zero, List.set_cons_succ]
  refine wpAnyH_take (i := 4) (v := .agg FA.toArray) rfl (by kernel_rfl) (by kernel_rfl) (by kernel_rfl) (fun _ _ _ h => h) (Or.inl ⟨by rfl, fun wx h => exec_load rfl rfl (rA.out wx h)⟩) (by assumption) ?_
  try simp only [Act.put, List.getElem_toArray, List.getElem_cons_zero, List.getElem_cons_succ, List.setIfInBounds_toArray, List.set_cons_zero, List.set_cons_succ]
  refine wpAnyH_ready (rs := [2]) (by kernel_rfl) (by simp) ?_
  refine AllReadyH.cons rfl (fun K hK => ?_) ?_
  · go_simp
    go_fit (con_MulL FAh.out FBh.out K1h.out HA.out.2 HA.out.1 HB.out.2 HB.out.1)
    rintro e w1 ⟨rfl, hb⟩
    refine hK.out _ _ ?_ (fun hHeld2 => ?_)
    · exact KL1.out _ _ hHeld hb
    · clear hK K hHeld
      have hHeld := hHeld2
      clear hHeld2
      try simp only [Act.put, List.getElem_toArray, List.getElem_cons_zero, List.getElem_cons_succ, List.setIfInBounds_toArray, List.set_cons_zero, List.set_cons_succ]
      clear hb
      refine wpAnyH_ready (rs := [5]) (by kernel_rfl) (by simp) ?_
      refine AllReadyH.cons rfl (fun K hK => ?_) ?_
      · go_simp
        go_fit (con_MulL FBh.out FAh.out K1r.out HB.out.2 HB.out.1 HA.out.2 HA.out.1)
        rintro e w2 ⟨rfl, hb⟩
        refine hK.out _ _ ?_ (fun hHeld2 => ?_)
        · exact KL1.out _ _ hHeld hb
        · clear hK K hHeld
          have hHeld := hHeld2
          clear hHeld2
          try simp only [Act.put, List.getElem_toArray, List.getElem_cons_zero, List.getElem_cons_succ, List.setIfInBounds_toArray, List.set_cons_zero, List.set_cons_succ]
          clear hb
          refine wpAnyH_take (i := 6) (v := ?_) rfl (by kernel_rfl) (by kernel_rfl) (by kernel_rfl) (fun _ _ _ h => h) (Or.inl ⟨by rfl, ?_⟩) (by assumption) ?_
          rotate_left
          · intro w hSw
            go_simp
            with_reducible rfl
          try simp only [Act.put, List.getElem_toArray, List.getElem_cons_zero, List.getElem_cons_succ, List.setIfInBounds_toArray, List.set_cons_zero, List.set_cons_succ]
          refine wpAnyH_ready (rs := [7]) (by kernel_rfl) (by simp) ?_
          refine AllReadyH.cons rfl (fun K hK => ?_) ?_
          · go_simp
            refine hK.out _ _ ?_ (fun hHeld2 => ?_)
            · exact hHeld
            · clear hK K hHeld
              have hHeld := hHeld2
              clear hHeld2
              try simp only [Act.put, List.getElem_toArray, List.getElem_cons_zero, List.getElem_cons_succ, List.setIfInBounds_toArray, List.set_cons_zero, List.set_cons_succ]
              refine wpAnyH_done (by kernel_rfl) ?_ _
              refine NoPanic.normal ?_
              have B0 := KM1.out _ _ _ hHeld (List.Mem.head _)
              have B1 := KM1.out _ _ _ hHeld (List.Mem.tail _ (List.Mem.head _))
              have B2 := KM1.out _ _ _ hHeld (List.Mem.tail _ (List.Mem.tail _ (List.Mem.head _)))
              have bel := KB1.out _ hHeld
              clear hHeld KL1 KD1 KB1 KM1 rA rB rC S1 q0
              go_upto_region 2 with fail
              obtain ⟨W2, hW2⟩ : ∃ z, z = w2 := ⟨_, rfl⟩
              rw [← hW2] at B0 B1 B2 bel ⊢
              clear hW2
              obtain ⟨S1, hS1, KL1, KA1, KD1, KS1, KQ1, KN1, KB1, KM1, KR1⟩ := held3 (w0 := w) (W := W2) [(w.heap.size, FA), (w.heap.size + 1, FB), (w.heap.size + 1 + 1, FC)] (by
                intro b X h
                simp only [List.mem_cons, List.not_mem_nil, or_false, Prod.mk.injEq] at h
                rcases h with ⟨rfl, rfl⟩ | ⟨rfl, rfl⟩ | ⟨rfl, rfl⟩
                · exact B0
                · exact B1
                · exact B2) bel
              have rA : Hid (∀ wx, Hd S1 wx → (loadVar 22 ⟨w.heap.size, 0, none⟩).run Try.prog wx = .ok (.agg FA.toArray) wx) := fun wx h => (KM1.out wx (w.heap.size) _ h (List.Mem.head _)).load Try.underlying22 rfl size_16 FAl.out
              have rB : Hid (∀ wx, Hd S1 wx → (loadVar 22 ⟨w.heap.size + 1, 0, none⟩).run Try.prog wx = .ok (.agg FB.toArray) wx) := fun wx h => (KM1.out wx (w.heap.size + 1) _ h (List.Mem.tail _ (List.Mem.head _))).load Try.underlying22 rfl size_16 FBl.out
              have rC : Hid (∀ wx, Hd S1 wx → (loadVar 22 ⟨w.heap.size + 1 + 1, 0, none⟩).run Try.prog wx = .ok (.agg FC.toArray) wx) := fun wx h => (KM1.out wx (w.heap.size + 1 + 1) _ h (List.Mem.tail _ (List.Mem.tail _ (List.Mem.head _)))).load Try.underlying22 rfl size_16 FCl.out
              have q0 : ∀ w : World, (Op.equalIn 10000 22 (.agg K2.toArray) (.agg K2.toArray)).run Try.prog w = .ok true w := eql_same16 K2h.out K2l.out
              clear KS1 KQ1 KN1 KR1 KA1 B0 B1 B2 bel
              refine wp_region_noPanic ?_
              refine wp_region_held_drew (S := Hd S1) (by kernel_rfl) (KD1.out _ hS1) (fun hHeld => ?_)
              clear hS1
              generalize World.drew _ = wd at *
              refine wpAnyH_take (i := 0) (v := .agg FA.toArray) rfl (by kernel_rfl) (by kernel_rfl) (by kernel_rfl) (fun _ _ _ h => h) (Or.inl ⟨by rfl, fun wx h => exec_load rfl rfl (rA.out wx h)⟩) (by assumption) ?_
              try simp only [Act.put, List.getElem_toArray, List.getElem_cons_zero, List.getElem_cons_succ, List.setIfInBounds_toArray, List.set_cons_zero, List.set_cons_succ]
              refine wpAnyH_take (i := 1) (v := .agg FB.toArray) rfl (by kernel_rfl) (by kernel_rfl) (by kernel_rfl) (fun _ _ _ h => h) (Or.inl ⟨by rfl, fun wx h => exec_load rfl rfl (rB.out wx h)⟩) (by assumption) ?_
              try simp only [Act.put, List.getElem_toArray, List.getElem_cons_zero, List.getElem_cons_succ, List.setIfInBounds_toArray, List.set_cons_zero, List.set_cons_succ]
              refine wpAnyH_take (i := 3) (v := .agg FC.toArray) rfl (by kernel_rfl) (by kernel_rfl) (by kernel_rfl) (fun _ _ _ h => h) (Or.inl ⟨by rfl, fun wx h => exec_load rfl rfl (rC.out wx h)⟩) (by assumption) ?_
              try simp only [Act.put, List.getElem_toArray, List.getElem_cons_zero, List.getElem_cons_succ, List.setIfInBounds_toArray, List.set_cons_zero, List.set_cons_succ]
              refine wpAnyH_take (i := 5) (v := .agg FA.toArray) rfl (by kernel_rfl) (by kernel_rfl) (by kernel_rfl) (fun _ _ _ h => h) (Or.inl ⟨by rfl, fun wx h => exec_load rfl rfl (rA.out wx h)⟩) (by assumption) ?_
              try simp only [Act.put, List.getElem_toArray, List.getElem_cons_zero, List.getElem_cons_succ, List.setIfInBounds_toArray, List.set_cons_zero, List.set_cons_succ]
              refine wpAnyH_take (i := 6) (v := .agg FB.toArray) rfl (by kernel_rfl) (by kernel_rfl) (by kernel_rfl) (fun _ _ _ h => h) (Or.inl ⟨by rfl, fun wx h => exec_load rfl rfl (rB.out wx h)⟩) (by assumption) ?_
              try simp only [Act.put, List.getElem_toArray, List.getElem_cons_zero, List.getElem_cons_succ, List.setIfInBounds_toArray, List.set_cons_zero, List.set_cons_succ]
              refine wpAnyH_take (i := 7) (v := .agg FC.toArray) rfl (by kernel_rfl) (by kernel_rfl) (by kernel_rfl) (fun _ _ _ h => h) (Or.inl ⟨by rfl, fun wx h => exec_load rfl rfl (rC.out wx h)⟩) (by assumption) ?_
              try simp only [Act.put, List.getElem_toArray, List.getElem_cons_zero, List.getElem_cons_succ, List.setIfInBounds_toArray, List.set_cons_zero, List.set_cons_succ]
              refine wpAnyH_ready (rs := [2]) (by kernel_rfl) (by simp) ?_
              refine AllReadyH.cons rfl (fun K hK => ?_) ?_
              · go_simp
                go_fit (con_MulL FAh.out FBh.out K1h.out HA.out.2 HA.out.1 HB.out.2 HB.out.1)
                rintro e w1 ⟨rfl, hb⟩
                refine hK.out _ _ ?_ (fun hHeld2 => ?_)
                · exact KL1.out _ _ hHeld hb
                · clear hK K hHeld
                  have hHeld := hHeld2
                  clear hHeld2
                  try simp only [Act.put, List.getElem_toArray, List.getElem_cons_zero, List.getElem_cons_succ, List.setIfInBounds_toArray, List.set_cons_zero, List.set_cons_succ]
                  clear hb
                  refine wpAnyH_ready (rs := [4]) (by kernel_rfl) (by simp) ?_
                  refine AllReadyH.cons rfl (fun K hK => ?_) ?_
                  · go_simp
                    go_fit (con_MulL K1h.out FCh.out K2h.out (mulB_len _ _) (mulB_byt _ _) HC.out.2 HC.out.1)
                    rintro e w2 ⟨rfl, hb⟩
                    refine hK.out _ _ ?_ (fun hHeld2 => ?_)
                    · exact KL1.out _ _ hHeld hb
                    · clear hK K hHeld
                      have hHeld := hHeld2
                      clear hHeld2
                      try simp only [Act.put, List.getElem_toArray, List.getElem_cons_zero, List.getElem_cons_succ, List.setIfInBounds_toArray, List.set_cons_zero, List.set_cons_succ]
                      clear hb
                      refine wpAnyH_ready (rs := [8]) (by kernel_rfl) (by simp) ?_
                      refine AllReadyH.cons rfl (fun K hK => ?_) ?_
                      · go_simp
                        go_fit (con_MulL FBh.out FCh.out K3h.out HB.out.2 HB.out.1 HC.out.2 HC.out.1)
                        rintro e w3 ⟨rfl, hb⟩
                        refine hK.out _ _ ?_ (fun hHeld2 => ?_)
                        · exact KL1.out _ _ hHeld hb
                        · clear hK K hHeld
                          have hHeld := hHeld2
                          clear hHeld2
                          try simp only [Act.put, List.getElem_toArray, List.getElem_cons_zero, List.getElem_cons_succ, List.setIfInBounds_toArray, List.set_cons_zero, List.set_cons_succ]
                          clear hb
                          refine wpAnyH_ready (rs := [9]) (by kernel_rfl) (by simp) ?_
                          refine AllReadyH.cons rfl (fun K hK => ?_) ?_
                          · go_simp
                            go_fit (con_MulL FAh.out K3h.out K2r.out HA.out.2 HA.out.1 (mulB_len _ _) (mulB_byt _ _))
                            rintro e w4 ⟨rfl, hb⟩
                            refine hK.out _ _ ?_ (fun hHeld2 => ?_)
                            · exact KL1.out _ _ hHeld hb
                            · clear hK K hHeld
                              have hHeld := hHeld2
                              clear hHeld2
                              try simp only [Act.put, List.getElem_toArray, List.getElem_cons_zero, List.getElem_cons_succ, List.setIfInBounds_toArray, List.set_cons_zero, List.set_cons_succ]
                              clear hb
                              refine wpAnyH_take (i := 10) (v := ?_) rfl (by kernel_rfl) (by kernel_rfl) (by kernel_rfl) (fun _ _ _ h => h) (Or.inl ⟨by rfl, ?_⟩) (by assumption) ?_
                              rotate_left
                              · intro w hSw
                                go_simp
                                with_reducible rfl
                              try simp only [Act.put, List.getElem_toArray, List.getElem_cons_zero, List.getElem_cons_succ, List.setIfInBounds_toArray, List.set_cons_zero, List.set_cons_succ]
                              refine wpAnyH_ready (rs := [11]) (by kernel_rfl) (by simp) ?_
                              refine AllReadyH.cons rfl (fun K hK => ?_) ?_
                              · go_simp
                                refine hK.out _ _ ?_ (fun hHeld2 => ?_)
                                · exact hHeld
                                · clear hK K hHeld
                                  have hHeld := hHeld2
                                  clear hHeld2
                                  try simp only [Act.put, List.getElem_toArray, List.getElem_cons_zero, List.getElem_cons_succ, List.setIfInBounds_toArray, List.set_cons_zero, List.set_cons_succ]
                                  refine wpAnyH_done (by kernel_rfl) ?_ _
                                  refine NoPanic.normal ?_
                                  have B0 := KM1.out _ _ _ hHeld (List.Mem.head _)
                                  have B1 := KM1.out _ _ _ hHeld (List.Mem.tail _ (List.Mem.head _))
                                  have B2 := KM1.out _ _ _ hHeld (List.Mem.tail _ (List.Mem.tail _ (List.Mem.head _)))
                                  have bel := KB1.out _ hHeld
                                  clear hHeld KL1 KD1 KB1 KM1 rA rB rC S1 q0
                                  go_upto_region 3 with fail
                                  obtain ⟨W3, hW3⟩ : ∃ z, z = w4 := ⟨_, rfl⟩
                                  rw [← hW3] at B0 B1 B2 bel ⊢
                                  clear hW3
                                  obtain ⟨S1, hS1, KL1, KA1, KD1, KS1, KQ1, KN1, KB1, KM1, KR1⟩ := held3 (w0 := w) (W := W3) [(w.heap.size, FA), (w.heap.size + 1, FB), (w.heap.size + 1 + 1, FC)] (by
                                    intro b X h
                                    simp only [List.mem_cons, List.not_mem_nil, or_false, Prod.mk.injEq] at h
                                    rcases h with ⟨rfl, rfl⟩ | ⟨rfl, rfl⟩ | ⟨rfl, rfl⟩
                                    · exact B0
                                    · exact B1
                                    · exact B2) bel
                                  have rA : Hid (∀ wx, Hd S1 wx → (loadVar 22 ⟨w.heap.size, 0, none⟩).run Try.prog wx = .ok (.agg FA.toArray) wx) := fun wx h => (KM1.out wx (w.heap.size) _ h (List.Mem.head _)).load Try.underlying22 rfl size_16 FAl.out
                                  have rB : Hid (∀ wx, Hd S1 wx → (loadVar 22 ⟨w.heap.size + 1, 0, none⟩).run Try.prog wx = .ok (.agg FB.toArray) wx) := fun wx h => (KM1.out wx (w.heap.size + 1) _ h (List.Mem.tail _ (List.Mem.head _))).load Try.underlying22 rfl size_16 FBl.out
                                  have rC : Hid (∀ wx, Hd S1 wx → (loadVar 22 ⟨w.heap.size + 1 + 1, 0, none⟩).run Try.prog wx = .ok (.agg FC.toArray) wx) := fun wx h => (KM1.out wx (w.heap.size + 1 + 1) _ h (List.Mem.tail _ (List.Mem.tail _ (List.Mem.head _)))).load Try.underlying22 rfl size_16 FCl.out
                                  have q0 : ∀ w : World, (Op.equalIn 10000 22 (.agg M1.toArray) (.agg M1.toArray)).run Try.prog w = .ok true w := eql_same16 M1h.out M1l.out
                                  clear KS1 KQ1 KN1 KR1 KA1 B0 B1 B2 bel
                                  refine wp_region_noPanic ?_
                                  refine wp_region_held_drew (S := Hd S1) (by kernel_rfl) (KD1.out _ hS1) (fun hHeld => ?_)
                                  clear hS1
                                  generalize World.drew _ = wd at *
                                  refine wpAnyH_take (i := 0) (v := .agg FA.toArray) rfl (by kernel_rfl) (by kernel_rfl) (by kernel_rfl) (fun _ _ _ h => h) (Or.inl ⟨by rfl, fun wx h => exec_load rfl rfl (rA.out wx h)⟩) (by assumption) ?_
                                  try simp only [Act.put, List.getElem_toArray, List.getElem_cons_zero, List.getElem_cons_succ, List.setIfInBounds_toArray, List.set_cons_zero, List.set_cons_succ]
                                  refine wpAnyH_take (i := 1) (v := .agg FB.toArray) rfl (by kernel_rfl) (by kernel_rfl) (by kernel_rfl) (fun _ _ _ h => h) (Or.inl ⟨by rfl, fun wx h => exec_load rfl rfl (rB.out wx h)⟩) (by assumption) ?_
                                  try simp only [Act.put, List.getElem_toArray, List.getElem_cons_zero, List.getElem_cons_succ, List.setIfInBounds_toArray, List.set_cons_zero, List.set_cons_succ]
                                  refine wpAnyH_take (i := 2) (v := .agg FC.toArray) rfl (by kernel_rfl) (by kernel_rfl) (by kernel_rfl) (fun _ _ _ h => h) (Or.inl ⟨by rfl, fun wx h => exec_load rfl rfl (rC.out wx h)⟩) (by assumption) ?_
                                  try simp only [Act.put, List.getElem_toArray, List.getElem_cons_zero, List.getElem_cons_succ, List.setIfInBounds_toArray, List.set_cons_zero, List.set_cons_succ]
                                  refine wpAnyH_take (i := 5) (v := .agg FA.toArray) rfl (by kernel_rfl) (by kernel_rfl) (by kernel_rfl) (fun _ _ _ h => h) (Or.inl ⟨by rfl, fun wx h => exec_load rfl rfl (rA.out wx h)⟩) (by assumption) ?_
                                  try simp only [Act.put, List.getElem_toArray, List.getElem_cons_zero, List.getElem_cons_succ, List.setIfInBounds_toArray, List.set_cons_zero, List.set_cons_succ]
                                  refine wpAnyH_take (i := 6) (v := .agg FB.toArray) rfl (by kernel_rfl) (by kernel_rfl) (by kernel_rfl) (fun _ _ _ h => h) (Or.inl ⟨by rfl, fun wx h => exec_load rfl rfl (rB.out wx h)⟩) (by assumption) ?_
                                  try simp only [Act.put, List.getElem_toArray, List.getElem_cons_zero, List.getElem_cons_succ, List.setIfInBounds_toArray, List.set_cons_zero, List.set_cons_succ]
                                  refine wpAnyH_take (i := 8) (v := .agg FA.toArray) rfl (by kernel_rfl) (by kernel_rfl) (by kernel_rfl) (fun _ _ _ h => h) (Or.inl ⟨by rfl, fun wx h => exec_load rfl rfl (rA.out wx h)⟩) (by assumption) ?_
                                  try simp only [Act.put, List.getElem_toArray, List.getElem_cons_zero, List.getElem_cons_succ, List.setIfInBounds_toArray, List.set_cons_zero, List.set_cons_succ]
                                  refine wpAnyH_take (i := 9) (v := .agg FC.toArray) rfl (by kernel_rfl) (by kernel_rfl) (by kernel_rfl) (fun _ _ _ h => h) (Or.inl ⟨by rfl, fun wx h => exec_load rfl rfl (rC.out wx h)⟩) (by assumption) ?_
                                  try simp only [Act.put, List.getElem_toArray, List.getElem_cons_zero, List.getElem_cons_succ, List.setIfInBounds_toArray, List.set_cons_zero, List.set_cons_succ]
                                  refine wpAnyH_ready (rs := [3]) (by kernel_rfl) (by simp) ?_
                                  refine AllReadyH.cons rfl (fun K hK => ?_) ?_
                                  · go_simp
                                    go_fit (con_plusL FBh.out FCh.out P1h.out HB.out.2 HC.out.2)
                                    rintro e w1 ⟨rfl, hb⟩
                                    refine hK.out _ _ ?_ (fun hHeld2 => ?_)
                                    · exact KL1.out _ _ hHeld hb
                                    · clear hK K hHeld
                                      have hHeld := hHeld2
                                      clear hHeld2
                                      try simp only [Act.put, List.getElem_toArray, List.getElem_cons_zero, List.getElem_cons_succ, List.setIfInBounds_toArray, List.set_cons_zero, List.set_cons_succ]
                                      clear hb
                                      refine wpAnyH_ready (rs := [4]) (by kernel_rfl) (by simp) ?_
                                      refine AllReadyH.cons rfl (fun K hK => ?_) ?_
                                      · go_simp
                                        go_fit (con_MulL FAh.out P1h.out M1h.out HA.out.2 HA.out.1 (xk_len _ _) HP.out)
                                        rintro e w2 ⟨rfl, hb⟩
                                        refine hK.out _ _ ?_ (fun hHeld2 => ?_)
                                        · exact KL1.out _ _ hHeld hb
                                        · clear hK K hHeld
                                          have hHeld := hHeld2
                                          clear hHeld2
                                          try simp only [Act.put, List.getElem_toArray, List.getElem_cons_zero, List.getElem_cons_succ, List.setIfInBounds_toArray, List.set_cons_zero, List.set_cons_succ]
                                          clear hb
                                          refine wpAnyH_ready (rs := [7]) (by kernel_rfl) (by simp) ?_
                                          refine AllReadyH.cons rfl (fun K hK => ?_) ?_
                                          · go_simp
                                            go_fit (con_MulL FAh.out FBh.out K1h.out HA.out.2 HA.out.1 HB.out.2 HB.out.1)
                                            rintro e w3 ⟨rfl, hb⟩
                                            refine hK.out _ _ ?_ (fun hHeld2 => ?_)
                                            · exact KL1.out _ _ hHeld hb
                                            · clear hK K hHeld
                                              have hHeld := hHeld2
                                              clear hHeld2
                                              try simp only [Act.put, List.getElem_toArray, List.getElem_cons_zero, List.getElem_cons_succ, List.setIfInBounds_toArray, List.set_cons_zero, List.set_cons_succ]
                                              clear hb
                                              refine wpAnyH_ready (rs := [10]) (by kernel_rfl) (by simp) ?_
                                              refine AllReadyH.cons rfl (fun K hK => ?_) ?_
                                              · go_simp
                                                go_fit (con_MulL FAh.out FCh.out K4h.out HA.out.2 HA.out.1 HC.out.2 HC.out.1)
                                                rintro e w4 ⟨rfl, hb⟩
                                                refine hK.out _ _ ?_ (fun hHeld2 => ?_)
                                                · exact KL1.out _ _ hHeld hb
                                                · clear hK K hHeld
                                                  have hHeld := hHeld2
                                                  clear hHeld2
                                                  try simp only [Act.put, List.getElem_toArray, List.getElem_cons_zero, List.getElem_cons_succ, List.setIfInBounds_toArray, List.set_cons_zero, List.set_cons_succ]
                                                  clear hb
                                                  refine wpAnyH_ready (rs := [11]) (by kernel_rfl) (by simp) ?_
                                                  refine AllReadyH.cons rfl (fun K hK => ?_) ?_
                                                  · go_simp
                                                    go_fit (con_plusL K1h.out K4h.out M1r.out (mulB_len _ _) (mulB_len _ _))
                                                    rintro e w5 ⟨rfl, hb⟩
                                                    refine hK.out _ _ ?_ (fun hHeld2 => ?_)
                                                    · exact KL1.out _ _ hHeld hb
                                                    · clear hK K hHeld
                                                      have hHeld := hHeld2
                                                      clear hHeld2
                                                      try simp only [Act.put, List.getElem_toArray, List.getElem_cons_zero, List.getElem_cons_succ, List.setIfInBounds_toArray, List.set_cons_zero, List.set_cons_succ]
                                                      clear hb
                                                      refine wpAnyH_take (i := 12) (v := ?_) rfl (by kernel_rfl) (by kernel_rfl) (by kernel_rfl) (fun _ _ _ h => h) (Or.inl ⟨by rfl, ?_⟩) (by assumption) ?_
                                                      rotate_left
                                                      · intro w hSw
                                                        go_simp
                                                        with_reducible rfl
                                                      try simp only [Act.put, List.getElem_toArray, List.getElem_cons_zero, List.getElem_cons_succ, List.setIfInBounds_toArray, List.set_cons_zero, List.set_cons_succ]
                                                      refine wpAnyH_ready (rs := [13]) (by kernel_rfl) (by simp) ?_
                                                      refine AllReadyH.cons rfl (fun K hK => ?_) ?_
                                                      · go_simp
                                                        refine hK.out _ _ ?_ (fun hHeld2 => ?_)
                                                        · exact hHeld
                                                        · clear hK K hHeld
                                                          have hHeld := hHeld2
                                                          clear hHeld2
                                                          try simp only [Act.put, List.getElem_toArray, List.getElem_cons_zero, List.getElem_cons_succ, List.setIfInBounds_toArray, List.set_cons_zero, List.set_cons_succ]
                                                          refine wpAnyH_done (by kernel_rfl) ?_ _
                                                          refine NoPanic.normal ?_
                                                          have B0 := KM1.out _ _ _ hHeld (List.Mem.head _)
                                                          have B1 := KM1.out _ _ _ hHeld (List.Mem.tail _ (List.Mem.head _))
                                                          have B2 := KM1.out _ _ _ hHeld (List.Mem.tail _ (List.Mem.tail _ (List.Mem.head _)))
                                                          have bel := KB1.out _ hHeld
                                                          clear hHeld KL1 KD1 KB1 KM1 rA rB rC S1 q0
                                                          go_upto_region 4 with fail
                                                          obtain ⟨W4, hW4⟩ : ∃ z, z = w5 := ⟨_, rfl⟩
                                                          rw [← hW4] at B0 B1 B2 bel ⊢
                                                          clear hW4
                                                          obtain ⟨S1, hS1, KL1, KA1, KD1, KS1, KQ1, KN1, KB1, KM1, KR1⟩ := held3 (w0 := w) (W := W4) [(w.heap.size, FA), (w.heap.size + 1, FB), (w.heap.size + 1 + 1, FC)] (by
                                                            intro b X h
                                                            simp only [List.mem_cons, List.not_mem_nil, or_false, Prod.mk.injEq] at h
                                                            rcases h with ⟨rfl, rfl⟩ | ⟨rfl, rfl⟩ | ⟨rfl, rfl⟩
                                                            · exact B0
                                                            · exact B1
                                                            · exact B2) bel
                                                          have rA : Hid (∀ wx, Hd S1 wx → (loadVar 22 ⟨w.heap.size, 0, none⟩).run Try.prog wx = .ok (.agg FA.toArray) wx) := fun wx h => (KM1.out wx (w.heap.size) _ h (List.Mem.head _)).load Try.underlying22 rfl size_16 FAl.out
                                                          have rB : Hid (∀ wx, Hd S1 wx → (loadVar 22 ⟨w.heap.size + 1, 0, none⟩).run Try.prog wx = .ok (.agg FB.toArray) wx) := fun wx h => (KM1.out wx (w.heap.size + 1) _ h (List.Mem.tail _ (List.Mem.head _))).load Try.underlying22 rfl size_16 FBl.out
                                                          have rC : Hid (∀ wx, Hd S1 wx → (loadVar 22 ⟨w.heap.size + 1 + 1, 0, none⟩).run Try.prog wx = .ok (.agg FC.toArray) wx) := fun wx h => (KM1.out wx (w.heap.size + 1 + 1) _ h (List.Mem.tail _ (List.Mem.tail _ (List.Mem.head _)))).load Try.underlying22 rfl size_16 FCl.out
                                                          have q0 : ∀ w : World, (Op.equalIn 10000 22 (.agg FA.toArray) (.agg FA.toArray)).run Try.prog w = .ok true w := eql_same16 FAh.out FAl.out
                                                          have q1 : ∀ w : World, (Op.equalIn 10000 22 (.agg O1.toArray) (.agg O1.toArray)).run Try.prog w = .ok true w := eql_same16 O1h.out O1l.out
                                                          clear KS1 KQ1 KN1 KR1 KA1 B0 B1 B2 bel
                                                          refine wp_region_noPanic ?_
                                                          refine wp_region_held_drew (S := Hd S1) (by kernel_rfl) (KD1.out _ hS1) (fun hHeld => ?_)
                                                          clear hS1
                                                          generalize World.drew _ = wd at *
                                                          refine wpAnyH_take (i := 0) (v := ?_) rfl (by kernel_rfl) (by kernel_rfl) (by kernel_rfl) (fun _ _ _ h => h) (Or.inl ⟨by rfl, ?_⟩) (by assumption) ?_
                                                          rotate_left
                                                          · intro w hSw
                                                            go_simp
                                                            with_reducible rfl
                                                          try simp only [Act.put, List.getElem_toArray, List.getElem_cons_zero, List.getElem_cons_succ, List.setIfInBounds_toArray, List.set_cons_zero, List.set_cons_succ]
                                                          refine wpAnyH_take (i := 1) (v := ?_) rfl (by kernel_rfl) (by kernel_rfl) (by kernel_rfl) (fun _ _ _ h => h) (Or.inl ⟨by rfl, ?_⟩) (by assumption) ?_
                                                          rotate_left
                                                          · intro w hSw
                                                            go_simp
                                                            with_reducible rfl
                                                          try simp only [Act.put, List.getElem_toArray, List.getElem_cons_zero, List.getElem_cons_succ, List.setIfInBounds_toArray, List.set_cons_zero, List.set_cons_succ]
                                                          refine wpAnyH_take (i := 2) (v := ?_) rfl (by kernel_rfl) (by kernel_rfl) (by kernel_rfl) (fun _ _ _ h => h) (Or.inl ⟨by rfl, ?_⟩) (by assumption) ?_
                                                          rotate_left
                                                          · intro w hSw
                                                            go_simp
                                                            with_reducible rfl
                                                          try simp only [Act.put, List.getElem_toArray, List.getElem_cons_zero, List.getElem_cons_succ, List.setIfInBounds_toArray, List.set_cons_zero, List.set_cons_succ]
                                                          refine wpAnyH_take (i := 3) (v := ?_) rfl (by kernel_rfl) (by kernel_rfl) (by kernel_rfl) (fun _ _ _ h => h) (Or.inl ⟨by rfl, ?_⟩) (by assumption) ?_
                                                          rotate_left
                                                          · intro w hSw
                                                            go_simp
                                                            with_reducible rfl
                                                          try simp only [Act.put, List.getElem_toArray, List.getElem_cons_zero, List.getElem_cons_succ, List.setIfInBounds_toArray, List.set_cons_zero, List.set_cons_succ]
                                                          refine wpAnyH_take (i := 4) (v := ?_) rfl (by kernel_rfl) (by kernel_rfl) (by kernel_rfl) (fun _ _ _ h => h) (Or.inl ⟨by rfl, ?_⟩) (by assumption) ?_
                                                          rotate_left
                                                          · intro w hSw
                                                            go_simp
                                                            with_reducible rfl
                                                          try simp only [Act.put, List.getElem_toArray, List.getElem_cons_zero, List.getElem_cons_succ, List.setIfInBounds_toArray, List.set_cons_zero, List.set_cons_succ]
                                                          refine wpAnyH_take (i := 5) (v := ?_) rfl (by kernel_rfl) (by kernel_rfl) (by kernel_rfl) (fun _ _ _ h => h) (Or.inl ⟨by rfl, ?_⟩) (by assumption) ?_
                                                          rotate_left
                                                          · intro w hSw
                                                            go_simp
                                                            with_reducible rfl
                                                          try simp only [Act.put, List.getElem_toArray, List.getElem_cons_zero, List.getElem_cons_succ, List.setIfInBounds_toArray, List.set_cons_zero, List.set_cons_succ]
                                                          refine wpAnyH_take (i := 6) (v := ?_) rfl (by kernel_rfl) (by kernel_rfl) (by kernel_rfl) (fun _ _ _ h => h) (Or.inl ⟨by rfl, ?_⟩) (by assumption) ?_
                                                          rotate_left
                                                          · intro w hSw
                                                            go_simp
                                                            with_reducible rfl
                                                          try simp only [Act.put, List.getElem_toArray, List.getElem_cons_zero, List.getElem_cons_succ, List.setIfInBounds_toArray, List.set_cons_zero, List.set_cons_succ]
                                                          refine wpAnyH_take (i := 7) (v := ?_) rfl (by kernel_rfl) (by kernel_rfl) (by kernel_rfl) (fun _ _ _ h => h) (Or.inl ⟨by rfl, ?_⟩) (by assumption) ?_
                                                          rotate_left
                                                          · intro w hSw
                                                            go_simp
                                                            with_reducible rfl
                                                          try simp only [Act.put, List.getElem_toArray, List.getElem_cons_zero, List.getElem_cons_succ, List.setIfInBounds_toArray, List.set_cons_zero, List.set_cons_succ]
                                                          refine wpAnyH_take (i := 8) (v := .agg FA.toArray) rfl (by kernel_rfl) (by kernel_rfl) (by kernel_rfl) (fun _ _ _ h => h) (Or.inl ⟨by rfl, fun wx h => exec_load rfl rfl (rA.out wx h)⟩) (by assumption) ?_
                                                          try simp only [Act.put, List.getElem_toArray, List.getElem_cons_zero, List.getElem_cons_succ, List.setIfInBounds_toArray, List.set_cons_zero, List.set_cons_succ]
                                                          refine wpAnyH_take (i := 11) (v := .agg FA.toArray) rfl (by kernel_rfl) (by kernel_rfl) (by kernel_rfl) (fun _ _ _ h => h) (Or.inl ⟨by rfl, fun wx h => exec_load rfl rfl (rA.out wx h)⟩) (by assumption) ?_
                                                          try simp only [Act.put, List.getElem_toArray, List.getElem_cons_zero, List.getElem_cons_succ, List.setIfInBounds_toArray, List.set_cons_zero, List.set_cons_succ]
                                                          refine wpAnyH_ready (rs := [9]) (by kernel_rfl) (by simp) ?_
                                                          refine AllReadyH.cons rfl (fun K hK => ?_) ?_
                                                          · go_simp
                                                            go_fit (con_oneL O1h.out)
                                                            rintro e w1 ⟨rfl, hb⟩
                                                            refine hK.out _ _ ?_ (fun hHeld2 => ?_)
                                                            · exact KL1.out _ _ hHeld hb
                                                            · clear hK K hHeld
                                                              have hHeld := hHeld2
                                                              clear hHeld2
                                                              try simp only [Act.put, List.getElem_toArray, List.getElem_cons_zero, List.getElem_cons_succ, List.setIfInBounds_toArray, List.set_cons_zero, List.set_cons_succ]
                                                              clear hb
                                                              refine wpAnyH_ready (rs := [10]) (by kernel_rfl) (by simp) ?_
                                                              refine AllReadyH.cons rfl (fun K hK => ?_) ?_
                                                              · go_simp
                                                                go_fit (con_MulL FAh.out O1h.out FAr.out HA.out.2 HA.out.1 one_len one_byt)
                                                                rintro e w2 ⟨rfl, hb⟩
                                                                refine hK.out _ _ ?_ (fun hHeld2 => ?_)
                                                                · exact KL1.out _ _ hHeld hb
                                                                · clear hK K hHeld
                                                                  have hHeld := hHeld2
                                                                  clear hHeld2
                                                                  try simp only [Act.put, List.getElem_toArray, List.getElem_cons_zero, List.getElem_cons_succ, List.setIfInBounds_toArray, List.set_cons_zero, List.set_cons_succ]
                                                                  clear hb
                                                                  refine wpAnyH_take (i := 12) (v := ?_) rfl (by kernel_rfl) (by kernel_rfl) (by kernel_rfl) (fun _ _ _ h => h) (Or.inl ⟨by rfl, ?_⟩) (by assumption) ?_
                                                                  rotate_left
                                                                  · intro w hSw
                                                                    go_simp
                                                                    with_reducible rfl
                                                                  try simp only [Act.put, List.getElem_toArray, List.getElem_cons_zero, List.getElem_cons_succ, List.setIfInBounds_toArray, List.set_cons_zero, List.set_cons_succ]
                                                                  refine wpAnyH_take (i := 13) (v := ?_) rfl (by kernel_rfl) (by kernel_rfl) (by kernel_rfl) (fun _ _ _ h => h) (Or.inl ⟨by rfl, ?_⟩) (by assumption) ?_
                                                                  rotate_left
                                                                  · intro w hSw
                                                                    go_simp
                                                                    with_reducible rfl
                                                                  try simp only [Act.put, List.getElem_toArray, List.getElem_cons_zero, List.getElem_cons_succ, List.setIfInBounds_toArray, List.set_cons_zero, List.set_cons_succ]
                                                                  refine wpAnyH_take (i := 14) (v := ?_) rfl (by kernel_rfl) (by kernel_rfl) (by kernel_rfl) (fun _ _ _ h => h) (Or.inl ⟨by rfl, ?_⟩) (by assumption) ?_
                                                                  rotate_left
                                                                  · intro w hSw
                                                                    go_simp
                                                                    with_reducible rfl
                                                                  try simp only [Act.put, List.getElem_toArray, List.getElem_cons_zero, List.getElem_cons_succ, List.setIfInBounds_toArray, List.set_cons_zero, List.set_cons_succ]
                                                                  refine wpAnyH_ready (rs := [15]) (by kernel_rfl) (by simp) ?_
                                                                  refine AllReadyH.cons rfl (fun K hK => ?_) ?_
                                                                  · go_simp
                                                                    go_fit (con_oneL O1h.out)
                                                                    rintro e w3 ⟨rfl, hb⟩
                                                                    refine hK.out _ _ ?_ (fun hHeld2 => ?_)
                                                                    · exact KL1.out _ _ hHeld hb
                                                                    · clear hK K hHeld
                                                                      have hHeld := hHeld2
                                                                      clear hHeld2
                                                                      try simp only [Act.put, List.getElem_toArray, List.getElem_cons_zero, List.getElem_cons_succ, List.setIfInBounds_toArray, List.set_cons_zero, List.set_cons_succ]
                                                                      clear hb
                                                                      refine wpAnyH_ready (rs := [16]) (by kernel_rfl) (by simp) ?_
                                                                      refine AllReadyH.cons rfl (fun K hK => ?_) ?_
                                                                      · go_simp
                                                                        go_fit (con_oneL O1h.out)
                                                                        rintro e w4 ⟨rfl, hb⟩
                                                                        refine hK.out _ _ ?_ (fun hHeld2 => ?_)
                                                                        · exact KL1.out _ _ hHeld hb
                                                                        · clear hK K hHeld
                                                                          have hHeld := hHeld2
                                                                          clear hHeld2
                                                                          try simp only [Act.put, List.getElem_toArray, List.getElem_cons_zero, List.getElem_cons_succ, List.setIfInBounds_toArray, List.set_cons_zero, List.set_cons_succ]
                                                                          clear hb
                                                                          refine wpAnyH_ready (rs := [17]) (by kernel_rfl) (by simp) ?_
                                                                          refine AllReadyH.cons rfl (fun K hK => ?_) ?_
                                                                          · go_simp
                                                                            go_fit (con_Mul1 O1h.out)
                                                                            rintro e w5 ⟨rfl, hb⟩
                                                                            refine hK.out _ _ ?_ (fun hHeld2 => ?_)
                                                                            · exact KL1.out _ _ hHeld hb
                                                                            · clear hK K hHeld
                                                                              have hHeld := hHeld2
                                                                              clear hHeld2
                                                                              try simp only [Act.put, List.getElem_toArray, List.getElem_cons_zero, List.getElem_cons_succ, List.setIfInBounds_toArray, List.set_cons_zero, List.set_cons_succ]
                                                                              clear hb
                                                                              refine wpAnyH_ready (rs := [18]) (by kernel_rfl) (by simp) ?_
                                                                              refine AllReadyH.cons rfl (fun K hK => ?_) ?_
                                                                              · go_simp
                                                                                go_fit (con_oneL O1h.out)
                                                                                rintro e w6 ⟨rfl, hb⟩
                                                                                refine hK.out _ _ ?_ (fun hHeld2 => ?_)
                                                                                · exact KL1.out _ _ hHeld hb
                                                                                · clear hK K hHeld
                                                                                  have hHeld := hHeld2
                                                                                  clear hHeld2
                                                                                  try simp only [Act.put, List.getElem_toArray, List.getElem_cons_zero, List.getElem_cons_succ, List.setIfInBounds_toArray, List.set_cons_zero, List.set_cons_succ]
                                                                                  clear hb
                                                                                  refine wpAnyH_take (i := 19) (v := ?_) rfl (by kernel_rfl) (by kernel_rfl) (by kernel_rfl) (fun _ _ _ h => h) (Or.inl ⟨by rfl, ?_⟩) (by assumption) ?_
                                                                                  rotate_left
                                                                                  · intro w hSw
                                                                                    go_simp
                                                                                    with_reducible rfl
                                                                                  try simp only [Act.put, List.getElem_toArray, List.getElem_cons_zero, List.getElem_cons_succ, List.setIfInBounds_toArray, List.set_cons_zero, List.set_cons_succ]
                                                                                  refine wpAnyH_take (i := 20) (v := ?_) rfl (by kernel_rfl) (by kernel_rfl) (by kernel_rfl) (fun _ _ _ h => h) (Or.inl ⟨by rfl, ?_⟩) (by assumption) ?_
                                                                                  rotate_left
                                                                                  · intro w hSw
                                                                                    go_simp
                                                                                    with_reducible rfl
                                                                                  try simp only [Act.put, List.getElem_toArray, List.getElem_cons_zero, List.getElem_cons_succ, List.setIfInBounds_toArray, List.set_cons_zero, List.set_cons_succ]
                                                                                  refine wpAnyH_ready (rs := [21]) (by kernel_rfl) (by simp) ?_
                                                                                  refine AllReadyH.cons rfl (fun K hK => ?_) ?_
                                                                                  · go_simp
                                                                                    refine hK.out _ _ ?_ (fun hHeld2 => ?_)
                                                                                    · exact hHeld
                                                                                    · clear hK K hHeld
                                                                                      have hHeld := hHeld2
                                                                                      clear hHeld2
                                                                                      try simp only [Act.put, List.getElem_toArray, List.getElem_cons_zero, List.getElem_cons_succ, List.setIfInBounds_toArray, List.set_cons_zero, List.set_cons_succ]
                                                                                      refine wpAnyH_done (by kernel_rfl) ?_ _
                                                                                      refine NoPanic.normal ?_
                                                                                      go_wp2_with fail
                                                                                      go_ret
                                                                                      exact ⟨rfl, KB1.out _ hHeld⟩
                                                                                  exact AllReadyH.nil
                                                                              exact AllReadyH.nil
                                                                          exact AllReadyH.nil
                                                                      exact AllReadyH.nil
                                                                  exact AllReadyH.nil
                                                              exact AllReadyH.nil
                                                          exact AllReadyH.nil
                                                      exact AllReadyH.nil
                                                  exact AllReadyH.nil
                                              exact AllReadyH.nil
                                          exact AllReadyH.nil
                                      exact AllReadyH.nil
                                  exact AllReadyH.nil
                              exact AllReadyH.nil
                          exact AllReadyH.nil
                      exact AllReadyH.nil
                  exact AllReadyH.nil
              exact AllReadyH.nil
          exact AllReadyH.nil
      exact AllReadyH.nil
  exact AllReadyH.nil
end Go.Proofs.Ytpfmoakapdfdaaa
