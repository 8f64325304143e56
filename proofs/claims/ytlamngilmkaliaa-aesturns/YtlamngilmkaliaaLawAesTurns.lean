/- The law AesTurns answers true: any state with its rows turned; four times so is the state itself. -/
import Derived.Test.YtlamngilmkaliaaRows
import Derived.Test.YtlamngilmkaliaaAeCodeT
import Derived.Test.YtlamngilmkaliaaAeTurn
import Derived.Test.YtlamngilmkaliaaAeInv
import Derived.Test.YtlamngilmkaliaaEqB
import Derived.Test.YtlamngilmkaliaaShape
import Derived.Test.YtlamngilmkaliaaTakeRow
import Derived.Deep.WholeRow
import Derived.Deep.RegionHeld3
import Derived.Deep.DeepCutAuto
import Derived.Deep.DeepFit
namespace Go.Proofs.Ytlamngilmkaliaa
open Go.RowKit

theorem con_TurnedL {S : List Int} {F G : List Value} {w : World} (hF : u8s S = F) (hG : u8s (turnN S) = G) (l : S.length = 16) (b : byt S) :
    Calls Try.prog 13 #[.agg F.toArray] w fun e w' => e = .returned (.agg G.toArray) ∧ Below w.heap.size w w' := by
  subst hF hG
  exact con_Turned l b
theorem r9_TurnedL2 {S : List Int} {F G : List Value} {w : World} (hF : u8s S = F) (hG : u8s (turnN S) = G) (l : S.length = 16) (_ : byt S) :
    Calls Try.prog 14 #[.agg F.toArray] w fun e w' => e = .returned (.agg G.toArray) ∧ Below w.heap.size w w' := by
  subst hF hG
  exact r9_Turned l
theorem con_TurnedC {w : World} :
    Calls Try.prog 13 #[.agg #[.int .u8 0, .int .u8 0, .int .u8 0, .int .u8 0, .int .u8 0, .int .u8 1, .int .u8 0, .int .u8 0, .int .u8 0, .int .u8 0, .int .u8 0, .int .u8 0, .int .u8 0, .int .u8 0, .int .u8 0, .int .u8 0]] w fun e w' => e = .returned (.agg #[.int .u8 0, .int .u8 1, .int .u8 0, .int .u8 0, .int .u8 0, .int .u8 0, .int .u8 0, .int .u8 0, .int .u8 0, .int .u8 0, .int .u8 0, .int .u8 0, .int .u8 0, .int .u8 0, .int .u8 0, .int .u8 0]) ∧ Below w.heap.size w w' := by
  have e : turnN [0, 0, 0, 0, 0, 1, 0, 0, 0, 0, 0, 0, 0, 0, 0, 0] = [0, 1, 0, 0, 0, 0, 0, 0, 0, 0, 0, 0, 0, 0, 0, 0] := by decide +kernel
  refine (con_TurnedL (S := [0, 0, 0, 0, 0, 1, 0, 0, 0, 0, 0, 0, 0, 0, 0, 0]) rfl (congrArg u8s e) rfl (byt_of _ (fun j hj => ?_))).mono fun _ _ h => h
  have a : ∀ j : Fin 16, 0 ≤ ([0, 0, 0, 0, 0, 1, 0, 0, 0, 0, 0, 0, 0, 0, 0, 0] : List Int).getD j.1 0 ∧ ([0, 0, 0, 0, 0, 1, 0, 0, 0, 0, 0, 0, 0, 0, 0, 0] : List Int).getD j.1 0 < 256 := by decide
  exact a ⟨j, hj⟩
theorem index_TurnedC : ∀ w : World, (Instr.index 26 (.agg #[.int .u8 0, .int .u8 1, .int .u8 0, .int .u8 0, .int .u8 0, .int .u8 0, .int .u8 0, .int .u8 0, .int .u8 0, .int .u8 0, .int .u8 0, .int .u8 0, .int .u8 0, .int .u8 0, .int .u8 0, .int .u8 0]) (.int .i64 1)).run Try.prog w = .ok (.int .u8 1) w := fun w => by kernel_rfl

set_option linter.unusedSimpArgs false in
set_option maxRecDepth 100000 in
set_option maxHeartbeats 4000000 in
theorem law_aesTurns (S : List Int) (w : World) (l : S.length = 16) (b : byt S) :
    Calls Try.prog 5 #[.agg (u8s S).toArray] w fun e w' => e = .returned (.bool true) ∧ Below w.heap.size w w' := by
  obtain ⟨F0, hF0⟩ : ∃ F, u8s (S) = F := ⟨_, rfl⟩
  have F0h : Hid (u8s (S) = F0) := hF0
  have F0o : Hid (F0.toArray.all (·.oneCell') = true) := by rw [← hF0]; exact u8_ones _
  have F0l : Hid (F0.length = 16) := by rw [← hF0, List.length_map]; exact l
  obtain ⟨F1, hF1⟩ : ∃ F, u8s (turnN S) = F := ⟨_, rfl⟩
  have F1h : Hid (u8s (turnN S) = F1) := hF1
  have F1o : Hid (F1.toArray.all (·.oneCell') = true) := by rw [← hF1]; exact u8_ones _
  have F1l : Hid (F1.length = 16) := by rw [← hF1, List.length_map]; exact turnN_len _
  obtain ⟨F2, hF2⟩ : ∃ F, u8s (turnN (turnN S)) = F := ⟨_, rfl⟩
  have F2h : Hid (u8s (turnN (turnN S)) = F2) := hF2
  have F2o : Hid (F2.toArray.all (·.oneCell') = true) := by rw [← hF2]; exact u8_ones _
  have F2l : Hid (F2.length = 16) := by rw [← hF2, List.length_map]; exact turnN_len _
  obtain ⟨F3, hF3⟩ : ∃ F, u8s (turnN (turnN (turnN S))) = F := ⟨_, rfl⟩
  have F3h : Hid (u8s (turnN (turnN (turnN S))) = F3) := hF3
  have F3o : Hid (F3.toArray.all (·.oneCell') = true) := by rw [← hF3]; exact u8_ones _
  have F3l : Hid (F3.length = 16) := by rw [← hF3, List.length_map]; exact turnN_len _
  have b1 : Hid (byt (turnN S)) := turnN_byt b
  have b2 : Hid (byt (turnN (turnN S))) := turnN_byt b1.out
  have b3 : Hid (byt (turnN (turnN (turnN S)))) := turnN_byt b2.out
  have HS : Hid (byt S) := b
  have HL : Hid (S.length = 16) := l
  have F4h : Hid (u8s (turnN (turnN (turnN (turnN S)))) = F0) := by show _ = _; rw [turn4 l, hF0]
  have hz := zero_16.out
  obtain ⟨cs, hcs⟩ : ∃ z, (u8s (List.replicate 16 (0 : Int))).toArray = z := ⟨_, rfl⟩
  have HZ : Hid (cs.size = 16) := by rw [← hcs]; rfl
  rw [hcs] at hz
  rw [hF0]
  clear hcs hF0 hF1 hF2 hF3 l b
  have B0 := Blk.new w F0 26 w.heap.size rfl
  have bel : Below w.heap.size w (w.alloc (.cells F0.toArray 26)) := (Below.refl _ _).alloc (Nat.le_refl _) _
  go_enter Try.func5, Try.ntmps5
  go_upto_region 1 with fail
  generalize w.alloc (Obj.cells F0.toArray 26) = W at *
  have lt0 := B0.lt
  go_wp2_with (first | (refine wpList_load_blk rfl rfl rfl B0 Try.underlying26 rfl size_16 F0l.out ?_) | fail)
  refine (con_TurnedL F0h.out F1h.out HL.out HS.out).mono ?_
  rintro e w1 ⟨rfl, hb⟩
  replace B0 := B0.later hb
  replace bel := below_step bel hb
  clear hb lt0
  go_upto_region 2 with (first | (refine wpList_store_row rfl 26 _ _ rfl w1.heap.size F1.toArray rfl rfl 26 cs (heap_alloc_last _ _) (by rw [size_16, List.size_toArray, F1l.out]) (by rw [HZ.out, List.size_toArray, F1l.out]) F1o.out ?_; rw [World.setRow_alloc_new]) | fail)
  have B1 := Blk.new w1 F1 26 w1.heap.size rfl
  replace B0 := B0.alloc (.cells F1.toArray 26)
  replace bel := below_alloc (o := .cells F1.toArray 26) bel
  obtain ⟨g1, hg1⟩ : ∃ b, b = w1.heap.size := ⟨_, rfl⟩
  generalize w1.alloc (Obj.cells F1.toArray 26) = W1 at *
  rw [← hg1] at B1 ⊢
  clear hg1
  have lt1 := B1.lt
  go_wp2_with (first | (refine wpList_load_blk rfl rfl rfl B1 Try.underlying26 rfl size_16 F1l.out ?_) | fail)
  refine (con_TurnedL F1h.out F2h.out (turnN_len _) b1.out).mono ?_
  rintro e w2 ⟨rfl, hb⟩
  replace B0 := B0.later hb
  replace B1 := B1.later hb
  replace bel := below_step bel hb
  clear hb lt1
  go_wp2_with fail
  refine (con_TurnedL F2h.out F3h.out (turnN_len _) b2.out).mono ?_
  rintro e w3 ⟨rfl, hb⟩
  replace B0 := B0.later hb
  replace B1 := B1.later hb
  replace bel := below_step bel hb
  clear hb
  go_wp2_with fail
  refine (con_TurnedL F3h.out F4h.out (turnN_len _) b3.out).mono ?_
  rintro e w4 ⟨rfl, hb⟩
  replace B0 := B0.later hb
  replace B1 := B1.later hb
  replace bel := below_step bel hb
  clear hb
  go_upto_region 3 with (first | (refine wpList_store_row rfl 26 _ _ rfl w4.heap.size F0.toArray rfl rfl 26 cs (heap_alloc_last _ _) (by rw [size_16, List.size_toArray, F0l.out]) (by rw [HZ.out, List.size_toArray, F0l.out]) F0o.out ?_; rw [World.setRow_alloc_new]) | fail)
  have B2 := Blk.new w4 F0 26 w4.heap.size rfl
  replace B0 := B0.alloc (.cells F0.toArray 26)
  replace B1 := B1.alloc (.cells F0.toArray 26)
  replace bel := below_alloc (o := .cells F0.toArray 26) bel
  obtain ⟨g2, hg2⟩ : ∃ b, b = w4.heap.size := ⟨_, rfl⟩
  generalize w4.alloc (Obj.cells F0.toArray 26) = W2 at *
  rw [← hg2] at B2 ⊢
  clear hg2 hz
  obtain ⟨S1, hS1, KL1, KA1, KD1, KS1, KQ1, KN1, KB1, KM1, KR1⟩ := held3 (w0 := w) (W := W2) [(w.heap.size, F0), (g1, F1), (g2, F0)] (by
    intro b X h
    simp only [List.mem_cons, List.not_mem_nil, or_false, Prod.mk.injEq] at h
    rcases h with ⟨rfl, rfl⟩ | ⟨rfl, rfl⟩ | ⟨rfl, rfl⟩
    · exact B0
    · exact B1
    · exact B2) bel
  have r0 : Hid (∀ wx, Hd S1 wx → (loadVar 26 ⟨w.heap.size, 0, none⟩).run Try.prog wx = .ok (.agg F0.toArray) wx) := fun wx h => (KM1.out wx (w.heap.size) _ h (List.Mem.head _)).load Try.underlying26 rfl size_16 F0l.out
  have r1 : Hid (∀ wx, Hd S1 wx → (loadVar 26 ⟨g1, 0, none⟩).run Try.prog wx = .ok (.agg F1.toArray) wx) := fun wx h => (KM1.out wx (g1) _ h (List.Mem.tail _ (List.Mem.head _))).load Try.underlying26 rfl size_16 F1l.out
  have r2 : Hid (∀ wx, Hd S1 wx → (loadVar 26 ⟨g2, 0, none⟩).run Try.prog wx = .ok (.agg F0.toArray) wx) := fun wx h => (KM1.out wx (g2) _ h (List.Mem.tail _ (List.Mem.tail _ (List.Mem.head _)))).load Try.underlying26 rfl size_16 F0l.out
  have q1 : ∀ w : World, (Op.equalIn 10000 26 (.agg F1.toArray) (.agg F1.toArray)).run Try.prog w = .ok true w := by
    rw [← F1h.out]
    intro w
    rw [eql_16 (turnN_len S) (turnN_len S) w, decide_eq_true rfl]
  have q2 : ∀ w : World, (Op.equalIn 10000 26 (.agg F0.toArray) (.agg F0.toArray)).run Try.prog w = .ok true w := by
    rw [← F0h.out]
    intro w
    rw [eql_16 HL.out HL.out w, decide_eq_true rfl]
  have q3 := index_TurnedC
  clear KS1 KQ1 KN1 KR1 KA1 KM1 B0 B1 B2 bel
  refine wp_region_noPanic ?_
  refine wp_region_held_drew (S := Hd S1) (by kernel_rfl) (KD1.out _ hS1) (fun hHeld => ?_)
  clear hS1
  generalize World.drew _ = wd at *
  refine wpAnyH_take (i := 0) (v := .agg F1.toArray) rfl (by kernel_rfl) (by kernel_rfl) (by kernel_rfl) (fun _ _ _ h => h) (Or.inl ⟨by rfl, fun wx h => exec_load rfl rfl (r1.out wx h)⟩) (by assumption) ?_
  try simp only [Act.put, List.getElem_toArray, List.getElem_cons_zero, List.getElem_cons_succ, List.setIfInBounds_toArray, List.set_cons_zero, List.set_cons_succ]
  refine wpAnyH_take (i := 1) (v := .agg F0.toArray) rfl (by kernel_rfl) (by kernel_rfl) (by kernel_rfl) (fun _ _ _ h => h) (Or.inl ⟨by rfl, fun wx h => exec_load rfl rfl (r0.out wx h)⟩) (by assumption) ?_
  try simp only [Act.put, List.getElem_toArray, List.getElem_cons_zero, List.getElem_cons_succ, List.setIfInBounds_toArray, List.set_cons_zero, List.set_cons_succ]
  refine wpAnyH_ready (rs := [2]) (by kernel_rfl) (by simp) ?_
  refine AllReadyH.cons rfl (fun K hK => ?_) ?_
  · go_simp
    go_fit (r9_TurnedL2 F0h.out F1h.out HL.out HS.out)
    rintro e w5 ⟨rfl, hb⟩
    refine hK.out _ _ ?_ (fun hHeld2 => ?_)
    · exact KL1.out _ _ hHeld hb
    · clear hK K hHeld
      have hHeld := hHeld2
      clear hHeld2
      try simp only [Act.put, List.getElem_toArray, List.getElem_cons_zero, List.getElem_cons_succ, List.setIfInBounds_toArray, List.set_cons_zero, List.set_cons_succ]
      clear hb
      refine wpAnyH_take (i := 3) (v := ?_) rfl (by kernel_rfl) (by kernel_rfl) (by kernel_rfl) (fun _ _ _ h => h) (Or.inl ⟨by rfl, ?_⟩) (by assumption) ?_
      rotate_left
      · intro w hSw
        go_simp
        with_reducible rfl
      try simp only [Act.put, List.getElem_toArray, List.getElem_cons_zero, List.getElem_cons_succ, List.setIfInBounds_toArray, List.set_cons_zero, List.set_cons_succ]
      refine wpAnyH_take (i := 4) (v := ?_) rfl (by kernel_rfl) (by kernel_rfl) (by kernel_rfl) (fun _ _ _ h => h) (Or.inl ⟨by rfl, ?_⟩) (by assumption) ?_
      rotate_left
      · intro w hSw
        go_simp
        with_reducible rfl
      try simp only [Act.put, List.getElem_toArray, List.getElem_cons_zero, List.getElem_cons_succ, List.setIfInBounds_toArray, List.set_cons_zero, List.set_cons_succ]
      refine wpAnyH_take (i := 5) (v := .agg F0.toArray) rfl (by kernel_rfl) (by kernel_rfl) (by kernel_rfl) (fun _ _ _ h => h) (Or.inl ⟨by rfl, fun wx h => exec_load rfl rfl (r2.out wx h)⟩) (by assumption) ?_
      try simp only [Act.put, List.getElem_toArray, List.getElem_cons_zero, List.getElem_cons_succ, List.setIfInBounds_toArray, List.set_cons_zero, List.set_cons_succ]
      refine wpAnyH_take (i := 6) (v := .agg F0.toArray) rfl (by kernel_rfl) (by kernel_rfl) (by kernel_rfl) (fun _ _ _ h => h) (Or.inl ⟨by rfl, fun wx h => exec_load rfl rfl (r0.out wx h)⟩) (by assumption) ?_
      try simp only [Act.put, List.getElem_toArray, List.getElem_cons_zero, List.getElem_cons_succ, List.setIfInBounds_toArray, List.set_cons_zero, List.set_cons_succ]
      refine wpAnyH_take (i := 7) (v := ?_) rfl (by kernel_rfl) (by kernel_rfl) (by kernel_rfl) (fun _ _ _ h => h) (Or.inl ⟨by rfl, ?_⟩) (by assumption) ?_
      rotate_left
      · intro w hSw
        go_simp
        with_reducible rfl
      try simp only [Act.put, List.getElem_toArray, List.getElem_cons_zero, List.getElem_cons_succ, List.setIfInBounds_toArray, List.set_cons_zero, List.set_cons_succ]
      refine wpAnyH_take (i := 8) (v := ?_) rfl (by kernel_rfl) (by kernel_rfl) (by kernel_rfl) (fun _ _ _ h => h) (Or.inl ⟨by rfl, ?_⟩) (by assumption) ?_
      rotate_left
      · intro w hSw
        go_simp
        with_reducible rfl
      try simp only [Act.put, List.getElem_toArray, List.getElem_cons_zero, List.getElem_cons_succ, List.setIfInBounds_toArray, List.set_cons_zero, List.set_cons_succ]
      refine wpAnyH_take (i := 9) (v := ?_) rfl (by kernel_rfl) (by kernel_rfl) (by kernel_rfl) (fun _ _ _ h => h) (Or.inl ⟨by rfl, ?_⟩) (by assumption) ?_
      rotate_left
      · intro w hSw
        go_simp
        with_reducible rfl
      try simp only [Act.put, List.getElem_toArray, List.getElem_cons_zero, List.getElem_cons_succ, List.setIfInBounds_toArray, List.set_cons_zero, List.set_cons_succ]
      refine wpAnyH_take (i := 10) (v := ?_) rfl (by kernel_rfl) (by kernel_rfl) (by kernel_rfl) (fun _ _ _ h => h) (Or.inl ⟨by rfl, ?_⟩) (by assumption) ?_
      rotate_left
      · intro w hSw
        go_simp
        with_reducible rfl
      try simp only [Act.put, List.getElem_toArray, List.getElem_cons_zero, List.getElem_cons_succ, List.setIfInBounds_toArray, List.set_cons_zero, List.set_cons_succ]
      refine wpAnyH_ready (rs := [11]) (by kernel_rfl) (by simp) ?_
      refine AllReadyH.cons rfl (fun K hK => ?_) ?_
      · go_simp
        go_fit con_TurnedC
        rintro e w6 ⟨rfl, hb⟩
        refine hK.out _ _ ?_ (fun hHeld2 => ?_)
        · exact KL1.out _ _ hHeld hb
        · clear hK K hHeld
          have hHeld := hHeld2
          clear hHeld2
          try simp only [Act.put, List.getElem_toArray, List.getElem_cons_zero, List.getElem_cons_succ, List.setIfInBounds_toArray, List.set_cons_zero, List.set_cons_succ]
          clear hb
          refine wpAnyH_take (i := 12) (v := ?_) rfl (by kernel_rfl) (by kernel_rfl) (by kernel_rfl) (fun _ _ _ h => h) (Or.inl ⟨by rfl, ?_⟩) (by assumption) ?_
          rotate_left
          · intro w hSw
            go_simp
            with_reducible rfl
          try simp only [Act.put, List.getElem_toArray, List.getElem_cons_zero, List.getElem_cons_succ, List.setIfInBounds_toArray, List.set_cons_zero, List.set_cons_succ]
          refine wpAnyH_take (i := 13) (v := ?_) rfl (by kernel_rfl) (by kernel_rfl) (by kernel_rfl) (fun _ _ _ h => h) (Or.inl ⟨by rfl, ?_⟩) (by assumption) ?_
          rotate_left
          · intro w hSw
            go_simp
            with_reducible rfl
          try simp only [Act.put, List.getElem_toArray, List.getElem_cons_zero, List.getElem_cons_succ, List.setIfInBounds_toArray, List.set_cons_zero, List.set_cons_succ]
          refine wpAnyH_take (i := 14) (v := ?_) rfl (by kernel_rfl) (by kernel_rfl) (by kernel_rfl) (fun _ _ _ h => h) (Or.inl ⟨by rfl, ?_⟩) (by assumption) ?_
          rotate_left
          · intro w hSw
            go_simp
            with_reducible rfl
          try simp only [Act.put, List.getElem_toArray, List.getElem_cons_zero, List.getElem_cons_succ, List.setIfInBounds_toArray, List.set_cons_zero, List.set_cons_succ]
          refine wpAnyH_ready (rs := [15]) (by kernel_rfl) (by simp) ?_
          refine AllReadyH.cons rfl (fun K hK => ?_) ?_
          · go_simp
            refine hK.out _ _ ?_ (fun hHeld2 => ?_)
            · exact hHeld
            · clear hK K hHeld
              have hHeld := hHeld2
              clear hHeld2
              try simp only [Act.put, List.getElem_toArray, List.getElem_cons_zero, List.getElem_cons_succ, List.setIfInBounds_toArray, List.set_cons_zero, List.set_cons_succ]
              refine wpAnyH_done (by kernel_rfl) ?_ _
              refine NoPanic.normal ?_
              go_wp2_with fail
              go_ret
              exact ⟨rfl, KB1.out _ hHeld⟩
          exact AllReadyH.nil
      exact AllReadyH.nil
  exact AllReadyH.nil
end Go.Proofs.Ytlamngilmkaliaa
