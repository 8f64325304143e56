/- The laws of layer 11: what they share. -/
import Derived.Test.YtogbmekgmjmonaaRows
import Derived.Test.YtogbmekgmjmonaaGcCode
import Derived.Test.YtogbmekgmjmonaaGhNumG
import Derived.Test.YtogbmekgmjmonaaZeroG
import Derived.Test.YtogbmekgmjmonaaStrG
import Derived.Test.YtogbmekgmjmonaaShape
import Derived.Test.YtogbmekgmjmonaaWpRowG
import Derived.Test.YtogbmekgmjmonaaApBs
import Derived.Test.YtogbmekgmjmonaaAeNumG
import Derived.Deep.OwnRows
import Derived.Deep.AppendLies
import Derived.Deep.WholeRow
import Derived.Deep.RegionHeld3
import Derived.Deep.DeepCutAuto
import Derived.Deep.DeepFit
namespace Go.Proofs.Ytogbmekgmjmonaa
open Go.RowKit

theorem con_cut {v : Value} {B : List Int} {m : Int} {n : Nat} {w : World} (hm : m = (n : Int)) (h : Bs w v B) :
    Calls Try.prog 8 #[v, .int .i64 m] w fun e w' => ∃ v' : Value, e = .returned v' ∧ Bs w v' (B.take n) ∧ w' = w := by
  subst hm
  have h0 := h
  obtain ⟨ao, cap, rfl, c1, c2, c3⟩ := h
  clear c3
  unfold maxLen at c1
  by_cases hl : n < B.length
  · have g1 : (n : Int) < ((B.length : Nat) : Int) := by omega
    have g2 : (0 : Int) ≤ (n : Int) := by omega
    have g3 : n ≤ cap := by omega
    go_enter Try.func8, Try.ntmps8
    go_wp2_with fail
    go_ret
    exact ⟨_, rfl, bs_uptoC h0 rfl (by omega), rfl⟩
  · have g1 : ¬ (n : Int) < ((B.length : Nat) : Int) := by omega
    have HT : Hid (B.take n = B) := List.take_of_length_le (by omega)
    go_enter Try.func8, Try.ntmps8
    go_wp2_with fail
    go_ret
    exact ⟨_, rfl, by rw [HT.out]; exact h0, rfl⟩
theorem byt_nil : byt [] := fun j => by simp
theorem bs_rep {w : World} {g n : Nat} {M : List Value} (B : Blk w g M) (hM : u8s (List.replicate n 0) = M) (h : n ≤ maxLen) : Bs w (.slice (some ⟨g, 0, none⟩) n n) (List.replicate n 0) := by
  subst hM
  exact B.bs List.length_replicate h

set_option linter.unusedSimpArgs false in
set_option maxRecDepth 100000 in
set_option maxHeartbeats 2000000 in
theorem con_up {w : World} :
    Calls Try.prog 7 #[] w fun e w' => e = .returned (.bool true) ∧ Below w.heap.size w w' := by
  obtain ⟨P, hP⟩ : ∃ M, u8s (List.replicate 32 0) = M := ⟨_, rfl⟩
  have Ph : Hid (u8s (List.replicate 32 0) = P) := hP
  have mkP : ∀ w : World, (Instr.makeSlice 22 (.int .i64 32) (.int .i64 32)).run Try.prog w = .ok (.slice (some ⟨w.heap.size, 0, none⟩) 32 32) (w.alloc (.cells P.toArray 5)) := fun w => by
    have := run_make_row' 22 5 (.int .u8 0) 1 Try.underlying22 info_b16 rfl .i64 .i64 32 (by omega) (by omega) w
    rw [made_zero, hP] at this
    exact this
  clear hP
  obtain ⟨Q, hQ⟩ : ∃ M, u8s (List.replicate 12 0) = M := ⟨_, rfl⟩
  have Qh : Hid (u8s (List.replicate 12 0) = Q) := hQ
  have mkQ : ∀ w : World, (Instr.makeSlice 22 (.int .i64 12) (.int .i64 12)).run Try.prog w = .ok (.slice (some ⟨w.heap.size, 0, none⟩) 12 12) (w.alloc (.cells Q.toArray 5)) := fun w => by
    have := run_make_row' 22 5 (.int .u8 0) 1 Try.underlying22 info_b16 rfl .i64 .i64 12 (by omega) (by omega) w
    rw [made_zero, hQ] at this
    exact this
  clear hQ
  go_enter Try.func7, Try.ntmps7
  go_upto_region 1 with fail
  obtain ⟨S1, hS1, KL1, KA1, KD1, KS1, KQ1, KN1, KB1, KM1, KR1⟩ := held3 (w0 := w) (W := w) [] (by intro b X h; simp at h) (Below.refl _ _)
  clear KS1 KQ1 KN1 KM1 KR1
  refine wp_region_noPanic ?_
  refine wp_region_held_drew (S := Hd S1) (by kernel_rfl) (KD1.out _ hS1) (fun hHeld => ?_)
  clear hS1
  generalize World.drew _ = wd at *
  refine wpAnyH_ready (rs := [0, 1]) (by kernel_rfl) (by simp) ?_
  refine AllReadyH.cons rfl (fun K hK => ?_) ?_
  · go_simp
    refine hK.out _ _ ?_ (fun hHeld2 => ?_)
    · exact KA1.out _ _ hHeld
    · clear hK K hHeld
      have hHeld := hHeld2
      clear hHeld2
      try simp only [Act.put, List.getElem_toArray, List.getElem_cons_zero, List.getElem_cons_succ, List.setIfInBounds_toArray, List.set_cons_zero, List.set_cons_succ]
      have bk := bs_rep (Blk.new wd P 5 wd.heap.size rfl) Ph.out (by decide)
      obtain ⟨gk, hgk⟩ : ∃ g, g = wd.heap.size := ⟨_, rfl⟩
      obtain ⟨wa, hwa⟩ : ∃ z, z = wd.alloc (Obj.cells P.toArray 5) := ⟨_, rfl⟩
      rw [← hgk] at bk ⊢
      rw [← hwa] at bk hHeld ⊢
      clear hgk hwa
      refine wpAnyH_ready (rs := [1]) (by kernel_rfl) (by simp) ?_
      refine AllReadyH.cons rfl (fun K hK => ?_) ?_
      · go_simp
        refine hK.out _ _ ?_ (fun hHeld2 => ?_)
        · exact KA1.out _ _ hHeld
        · clear hK K hHeld
          have hHeld := hHeld2
          clear hHeld2
          try simp only [Act.put, List.getElem_toArray, List.getElem_cons_zero, List.getElem_cons_succ, List.setIfInBounds_toArray, List.set_cons_zero, List.set_cons_succ]
          have bn := bs_rep (Blk.new wa Q 5 wa.heap.size rfl) Qh.out (by decide)
          replace bk := bk.later ((Below.refl _ _).alloc (Nat.le_refl _) (.cells Q.toArray 5))
          obtain ⟨gn, hgn⟩ : ∃ g, g = wa.heap.size := ⟨_, rfl⟩
          obtain ⟨wb, hwb⟩ : ∃ z, z = wa.alloc (Obj.cells Q.toArray 5) := ⟨_, rfl⟩
          rw [← hgn] at bn ⊢
          rw [← hwb] at bn bk hHeld ⊢
          clear hgn hwb
          refine wpAnyH_ready (rs := [2]) (by kernel_rfl) (by simp) ?_
          refine AllReadyH.cons rfl (fun K hK => ?_) ?_
          · go_simp
            refine (con_Seal bk bn (bs_none _) (bs_none _) (byt_rep 32) List.length_replicate (byt_rep 12) List.length_replicate byt_nil byt_nil (by decide) (by decide)).mono ?_
            rintro e wc ⟨v, rfl, hf, hb⟩
            refine hK.out _ _ ?_ (fun hHeld2 => ?_)
            · exact KL1.out _ _ hHeld hb
            · clear hK K hHeld
              have hHeld := hHeld2
              clear hHeld2
              try simp only [Act.put, List.getElem_toArray, List.getElem_cons_zero, List.getElem_cons_succ, List.setIfInBounds_toArray, List.set_cons_zero, List.set_cons_succ]
              clear hb bk bn mkP mkQ
              rw [seal_zero] at hf
              obtain ⟨g, o, cap, cur, rfl, c1, c2, c3, c4, c5⟩ := hf
              have e0 := c4.cell _ _ (c5 0 (by decide))
              have e15 := c4.cell _ _ (c5 15 (by decide))
              clear c3 c5
              refine wpAnyH_take (i := 3) (v := ?_) rfl (by kernel_rfl) (by kernel_rfl) (by kernel_rfl) (fun _ _ _ h => h) (Or.inl ⟨by rfl, ?_⟩) (by assumption) ?_
              rotate_left
              · intro w hSw
                go_simp
                with_reducible rfl
              try simp only [Act.put, List.getElem_toArray, List.getElem_cons_zero, List.getElem_cons_succ, List.setIfInBounds_toArray, List.set_cons_zero, List.set_cons_succ]
              refine wpAnyH_take (i := 4) (v := ?_) rfl (by kernel_rfl) (by kernel_rfl) (by kernel_rfl) (fun _ _ _ h => h) (Or.inl ⟨by rfl, ?_⟩) (by assumption) ?_
              rotate_left
              · intro w hSw
                go_simp
                with_reducible rfl
              try simp only [Act.put, List.getElem_toArray, List.getElem_cons_zero, List.getElem_cons_succ, List.setIfInBounds_toArray, List.set_cons_zero, List.set_cons_succ]
              refine wpAnyH_take (i := 5) (v := ?_) rfl (by kernel_rfl) (by kernel_rfl) (by kernel_rfl) (fun _ _ _ h => h) (Or.inl ⟨by rfl, ?_⟩) (by assumption) ?_
              rotate_left
              · intro w hSw
                go_simp
                with_reducible rfl
              try simp only [Act.put, List.getElem_toArray, List.getElem_cons_zero, List.getElem_cons_succ, List.setIfInBounds_toArray, List.set_cons_zero, List.set_cons_succ]
              refine wpAnyH_ready (rs := [6]) (by kernel_rfl) (by simp) ?_
              refine AllReadyH.cons rfl (fun K hK => ?_) ?_
              · go_simp
                refine hK.out _ _ ?_ (fun hHeld2 => ?_)
                · exact hHeld
                · clear hK K hHeld
                  have hHeld := hHeld2
                  clear hHeld2
                  try simp only [Act.put, List.getElem_toArray, List.getElem_cons_zero, List.getElem_cons_succ, List.setIfInBounds_toArray, List.set_cons_zero, List.set_cons_succ]
                  refine wpAnyH_ready (rs := [7]) (by kernel_rfl) (by simp) ?_
                  refine AllReadyH.cons rfl (fun K hK => ?_) ?_
                  · go_simp
                    refine hK.out _ _ ?_ (fun hHeld2 => ?_)
                    · exact hHeld
                    · clear hK K hHeld
                      have hHeld := hHeld2
                      clear hHeld2
                      try simp only [Act.put, List.getElem_toArray, List.getElem_cons_zero, List.getElem_cons_succ, List.setIfInBounds_toArray, List.set_cons_zero, List.set_cons_succ]
                      refine wpAnyH_done (by kernel_rfl) ?_ _
                      refine NoPanic.normal ?_
                      have bel := KB1.out _ hHeld
                      have q1 := nil_eq
                      have lg := c4.lt
                      simp only [List.length_cons, List.length_nil, List.getD_cons_zero, List.getD_cons_succ, Nat.add_zero] at c1 e0 e15 ⊢
                      clear hHeld
                      go_wp2_with fail
                      go_ret
                      exact ⟨rfl, bel⟩
                  exact AllReadyH.nil
              exact AllReadyH.nil
          exact AllReadyH.nil
      exact AllReadyH.nil
  refine AllReadyH.cons rfl (fun K hK => ?_) ?_
  · go_simp
    refine hK.out _ _ ?_ (fun hHeld2 => ?_)
    · exact KA1.out _ _ hHeld
    · clear hK K hHeld
      have hHeld := hHeld2
      clear hHeld2
      try simp only [Act.put, List.getElem_toArray, List.getElem_cons_zero, List.getElem_cons_succ, List.setIfInBounds_toArray, List.set_cons_zero, List.set_cons_succ]
      have bn := bs_rep (Blk.new wd Q 5 wd.heap.size rfl) Qh.out (by decide)
      obtain ⟨gn, hgn⟩ : ∃ g, g = wd.heap.size := ⟨_, rfl⟩
      obtain ⟨wa, hwa⟩ : ∃ z, z = wd.alloc (Obj.cells Q.toArray 5) := ⟨_, rfl⟩
      rw [← hgn] at bn ⊢
      rw [← hwa] at bn hHeld ⊢
      clear hgn hwa
      refine wpAnyH_ready (rs := [0]) (by kernel_rfl) (by simp) ?_
      refine AllReadyH.cons rfl (fun K hK => ?_) ?_
      · go_simp
        refine hK.out _ _ ?_ (fun hHeld2 => ?_)
        · exact KA1.out _ _ hHeld
        · clear hK K hHeld
          have hHeld := hHeld2
          clear hHeld2
          try simp only [Act.put, List.getElem_toArray, List.getElem_cons_zero, List.getElem_cons_succ, List.setIfInBounds_toArray, List.set_cons_zero, List.set_cons_succ]
          have bk := bs_rep (Blk.new wa P 5 wa.heap.size rfl) Ph.out (by decide)
          replace bn := bn.later ((Below.refl _ _).alloc (Nat.le_refl _) (.cells P.toArray 5))
          obtain ⟨gk, hgk⟩ : ∃ g, g = wa.heap.size := ⟨_, rfl⟩
          obtain ⟨wb, hwb⟩ : ∃ z, z = wa.alloc (Obj.cells P.toArray 5) := ⟨_, rfl⟩
          rw [← hgk] at bk ⊢
          rw [← hwb] at bk bn hHeld ⊢
          clear hgk hwb
          refine wpAnyH_ready (rs := [2]) (by kernel_rfl) (by simp) ?_
          refine AllReadyH.cons rfl (fun K hK => ?_) ?_
          · go_simp
            refine (con_Seal bk bn (bs_none _) (bs_none _) (byt_rep 32) List.length_replicate (byt_rep 12) List.length_replicate byt_nil byt_nil (by decide) (by decide)).mono ?_
            rintro e wc ⟨v, rfl, hf, hb⟩
            refine hK.out _ _ ?_ (fun hHeld2 => ?_)
            · exact KL1.out _ _ hHeld hb
            · clear hK K hHeld
              have hHeld := hHeld2
              clear hHeld2
              try simp only [Act.put, List.getElem_toArray, List.getElem_cons_zero, List.getElem_cons_succ, List.setIfInBounds_toArray, List.set_cons_zero, List.set_cons_succ]
              clear hb bk bn mkP mkQ
              rw [seal_zero] at hf
              obtain ⟨g, o, cap, cur, rfl, c1, c2, c3, c4, c5⟩ := hf
              have e0 := c4.cell _ _ (c5 0 (by decide))
              have e15 := c4.cell _ _ (c5 15 (by decide))
              clear c3 c5
              refine wpAnyH_take (i := 3) (v := ?_) rfl (by kernel_rfl) (by kernel_rfl) (by kernel_rfl) (fun _ _ _ h => h) (Or.inl ⟨by rfl, ?_⟩) (by assumption) ?_
              rotate_left
              · intro w hSw
                go_simp
                with_reducible rfl
              try simp only [Act.put, List.getElem_toArray, List.getElem_cons_zero, List.getElem_cons_succ, List.setIfInBounds_toArray, List.set_cons_zero, List.set_cons_succ]
              refine wpAnyH_take (i := 4) (v := ?_) rfl (by kernel_rfl) (by kernel_rfl) (by kernel_rfl) (fun _ _ _ h => h) (Or.inl ⟨by rfl, ?_⟩) (by assumption) ?_
              rotate_left
              · intro w hSw
                go_simp
                with_reducible rfl
              try simp only [Act.put, List.getElem_toArray, List.getElem_cons_zero, List.getElem_cons_succ, List.setIfInBounds_toArray, List.set_cons_zero, List.set_cons_succ]
              refine wpAnyH_take (i := 5) (v := ?_) rfl (by kernel_rfl) (by kernel_rfl) (by kernel_rfl) (fun _ _ _ h => h) (Or.inl ⟨by rfl, ?_⟩) (by assumption) ?_
              rotate_left
              · intro w hSw
                go_simp
                with_reducible rfl
              try simp only [Act.put, List.getElem_toArray, List.getElem_cons_zero, List.getElem_cons_succ, List.setIfInBounds_toArray, List.set_cons_zero, List.set_cons_succ]
              refine wpAnyH_ready (rs := [6]) (by kernel_rfl) (by simp) ?_
              refine AllReadyH.cons rfl (fun K hK => ?_) ?_
              · go_simp
                refine hK.out _ _ ?_ (fun hHeld2 => ?_)
                · exact hHeld
                · clear hK K hHeld
                  have hHeld := hHeld2
                  clear hHeld2
                  try simp only [Act.put, List.getElem_toArray, List.getElem_cons_zero, List.getElem_cons_succ, List.setIfInBounds_toArray, List.set_cons_zero, List.set_cons_succ]
                  refine wpAnyH_ready (rs := [7]) (by kernel_rfl) (by simp) ?_
                  refine AllReadyH.cons rfl (fun K hK => ?_) ?_
                  · go_simp
                    refine hK.out _ _ ?_ (fun hHeld2 => ?_)
                    · exact hHeld
                    · clear hK K hHeld
                      have hHeld := hHeld2
                      clear hHeld2
                      try simp only [Act.put, List.getElem_toArray, List.getElem_cons_zero, List.getElem_cons_succ, List.setIfInBounds_toArray, List.set_cons_zero, List.set_cons_succ]
                      refine wpAnyH_done (by kernel_rfl) ?_ _
                      refine NoPanic.normal ?_
                      have bel := KB1.out _ hHeld
                      have q1 := nil_eq
                      have lg := c4.lt
                      simp only [List.length_cons, List.length_nil, List.getD_cons_zero, List.getD_cons_succ, Nat.add_zero] at c1 e0 e15 ⊢
                      clear hHeld
                      go_wp2_with fail
                      go_ret
                      exact ⟨rfl, bel⟩
                  exact AllReadyH.nil
              exact AllReadyH.nil
          exact AllReadyH.nil
      exact AllReadyH.nil
  exact AllReadyH.nil
end Go.Proofs.Ytogbmekgmjmonaa
