/- The program's Encrypt. -/
import Derived.Test.YtogbmekgmjmonaaRows
import Derived.Test.YtogbmekgmjmonaaAeCodeC
import Derived.Test.YtogbmekgmjmonaaAeCodeWG
import Derived.Deep.WholeRow
import Derived.Deep.RegionHeld3
import Derived.Deep.DeepCutAuto
import Derived.Deep.DeepFit
namespace Go.Proofs.Ytogbmekgmjmonaa
open Go.RowKit

theorem con_codeL {K S : List Int} {F E : List Value} {w : World} (hF : u8s S = F) (hE : u8s (encN K S 15) = E) (bK : byt K) (l : S.length = 16) (b : byt S) :
    Calls Try.prog 34 #[.agg (u8s (allN K 15)).toArray, .agg F.toArray] w fun e w' => e = .returned (.agg E.toArray) ∧ Below w.heap.size w w' := by
  subst hF hE
  exact con_code bK l b
set_option linter.unusedSimpArgs false in
set_option maxRecDepth 100000 in
set_option maxHeartbeats 2000000 in
theorem con_Encrypt {kv : Value} {K S : List Int} {w : World} (hk : Bs w kv K) (bK : byt K) (lK : K.length = 32) (l : S.length = 16) (b : byt S) :
    Calls Try.prog 24 #[kv, .agg (u8s S).toArray] w fun e w' => e = .returned (.tuple #[.agg (u8s (encN K S 15)).toArray, .nilIface]) ∧ Below w.heap.size w w' := by
  have HK : Hid (Bs w kv K) := hk
  have HSb : Hid (byt S) := b
  have HSl : Hid (S.length = 16) := l
  have HKb : Hid (byt K) := bK
  have HKl : Hid (K.length = 32) := lK
  have hz := zero_16.out
  obtain ⟨ao, cap, rfl, h1, h2, h3⟩ := hk
  clear h3
  rw [lK] at h2 HK ⊢
  clear b l bK lK
  obtain ⟨FS, hFS⟩ : ∃ F, u8s (S) = F := ⟨_, rfl⟩
  have FSh : Hid (u8s (S) = FS) := hFS
  have FSl : Hid (FS.length = 16) := by show _ = _; rw [← hFS, u8s, List.length_map]; exact HSl.out
  have FSo : Hid (FS.toArray.all (·.oneCell') = true) := by rw [← hFS]; exact u8_ones _
  clear hFS
  rw [FSh.out]
  obtain ⟨E, hE⟩ : ∃ F, u8s (encN K S 15) = F := ⟨_, rfl⟩
  have Eh : Hid (u8s (encN K S 15) = E) := hE
  have El : Hid (E.length = 16) := by show _ = _; rw [← hE, u8s, List.length_map]; exact encN_len HSl.out _
  have Eo : Hid (E.toArray.all (·.oneCell') = true) := by rw [← hE]; exact u8_ones _
  clear hE
  rw [Eh.out]
  have V0 := (Blk.new w FS 42 w.heap.size rfl).alloc (.cells (u8s (List.replicate 16 0)).toArray 42)
  have R0 := Blk.new (w.alloc (.cells FS.toArray 42)) (u8s (List.replicate 16 0)) 42 (w.heap.size + 1) (by simp)
  have bel : Below w.heap.size w ((w.alloc (.cells FS.toArray 42)).alloc (.cells (u8s (List.replicate 16 0)).toArray 42)) := (((Below.refl _ _).alloc (Nat.le_refl _) _).alloc (by simp) _)
  obtain ⟨Z, hZ⟩ : ∃ Z, (u8s (List.replicate 16 0)) = Z := ⟨_, rfl⟩
  have HZl : Hid (Z.length = 16) := by rw [← hZ]; rfl
  rw [hZ] at hz V0 R0 bel
  clear hZ
  go_enter Try.func24, Try.ntmps24
  go_upto_region 1 with fail
  generalize (w.alloc (.cells FS.toArray 42)).alloc (.cells Z.toArray 42) = W at *
  clear hz
  go_upto_region 3 with fail
  obtain ⟨S1, hS1, KL1, KA1, KD1, KS1, KQ1, KN1, KB1, KM1, KR1⟩ := held3 (w0 := w) (W := W) [(w.heap.size, FS)] (by
    intro b X h
    simp only [List.mem_cons, List.not_mem_nil, or_false, Prod.mk.injEq] at h
    obtain ⟨rfl, rfl⟩ := h
    exact V0) bel
  have rv : Hid (∀ wx, Hd S1 wx → (loadVar 42 ⟨w.heap.size, 0, none⟩).run Try.prog wx = .ok (.agg FS.toArray) wx) := fun wx h => (KM1.out wx w.heap.size _ h (List.Mem.head _)).load Try.underlying42 rfl size_16 FSl.out
  clear KS1 KA1 KN1 KQ1 V0 bel
  refine wp_region_noPanic ?_
  refine wp_region_held_drew (S := Hd S1) (by kernel_rfl) (KD1.out _ hS1) (fun hHeld => ?_)
  clear hS1
  replace R0 := R0.drew
  generalize World.drew _ = wd at *
  refine wpAnyH_take (i := 0) (v := ?_) rfl (by kernel_rfl) (by kernel_rfl) (by kernel_rfl) (fun _ _ _ h => h) (Or.inl ⟨by rfl, ?_⟩) (by assumption) ?_
  rotate_left
  · intro w hSw
    go_simp
    with_reducible rfl
  try simp only [Act.put, List.getElem_toArray, List.getElem_cons_zero, List.getElem_cons_succ, List.setIfInBounds_toArray, List.set_cons_zero, List.set_cons_succ]
  refine wpAnyH_take (i := 2) (v := .agg FS.toArray) rfl (by kernel_rfl) (by kernel_rfl) (by kernel_rfl) (fun _ _ _ h => h) (Or.inl ⟨by rfl, fun wx h => exec_load rfl rfl (rv.out wx h)⟩) (by assumption) ?_
  try simp only [Act.put, List.getElem_toArray, List.getElem_cons_zero, List.getElem_cons_succ, List.setIfInBounds_toArray, List.set_cons_zero, List.set_cons_succ]
  refine wpAnyH_ready (rs := [1]) (by kernel_rfl) (by simp) ?_
  refine AllReadyH.cons rfl (fun K hK => ?_) ?_
  · go_simp
    refine (con_roundKeys (HK.out.later (KB1.out _ hHeld)) HKb.out HKl.out).mono ?_
    rintro e w5 ⟨rfl, hb⟩
    refine hK.out _ _ ?_ (fun hHeld2 => ?_)
    · exact KL1.out _ _ hHeld hb
    · clear hK K hHeld
      have hHeld := hHeld2
      clear hHeld2
      try simp only [Act.put, List.getElem_toArray, List.getElem_cons_zero, List.getElem_cons_succ, List.setIfInBounds_toArray, List.set_cons_zero, List.set_cons_succ]
      replace R0 := R0.later hb
      clear hb
      refine wpAnyH_ready (rs := [3]) (by kernel_rfl) (by simp) ?_
      refine AllReadyH.cons rfl (fun K hK => ?_) ?_
      · go_simp
        refine (con_codeL FSh.out Eh.out HKb.out HSl.out HSb.out).mono ?_
        rintro e w6 ⟨rfl, hb⟩
        refine hK.out _ _ ?_ (fun hHeld2 => ?_)
        · exact KL1.out _ _ hHeld hb
        · clear hK K hHeld
          have hHeld := hHeld2
          clear hHeld2
          try simp only [Act.put, List.getElem_toArray, List.getElem_cons_zero, List.getElem_cons_succ, List.setIfInBounds_toArray, List.set_cons_zero, List.set_cons_succ]
          replace R0 := R0.later hb
          clear hb
          refine wpAnyH_ready (rs := [4]) (by kernel_rfl) (by simp) ?_
          refine AllReadyH.cons rfl (fun K hK => ?_) ?_
          · obtain ⟨tR, hR⟩ := R0
            rw [if_pos (by rfl)]
            refine wp_store_row 42 _ _ rfl (w.heap.size + 1) E.toArray rfl rfl tR Z.toArray hR (by rw [size_16, List.size_toArray, El.out]) (by rw [List.size_toArray, List.size_toArray, El.out, HZl.out]) Eo.out ?_
            refine hK.out _ _ ?_ (fun hHeld2 => ?_)
            · exact KR1.out _ _ _ hHeld (.inr (by intro c X h; simp only [List.mem_cons, List.not_mem_nil, or_false, Prod.mk.injEq] at h; obtain ⟨rfl, rfl⟩ := h; omega)) (by omega)
            · clear hK K hHeld
              have hHeld := hHeld2
              clear hHeld2
              try simp only [Act.put, List.getElem_toArray, List.getElem_cons_zero, List.getElem_cons_succ, List.setIfInBounds_toArray, List.set_cons_zero, List.set_cons_succ]
              have HR : Hid _ := setRow_heap w6 (w.heap.size + 1) _ E.toArray tR _ hR
              clear hR
              generalize w6.setRow (w.heap.size + 1) E.toArray = w7 at *
              refine wpAnyH_ready (rs := [5]) (by kernel_rfl) (by simp) ?_
              refine AllReadyH.cons rfl (fun K hK => ?_) ?_
              · go_simp
                refine hK.out _ _ ?_ (fun hHeld2 => ?_)
                · exact hHeld
                · clear hK K hHeld
                  have hHeld := hHeld2
                  clear hHeld2
                  try simp only [Act.put, List.getElem_toArray, List.getElem_cons_zero, List.getElem_cons_succ, List.setIfInBounds_toArray, List.set_cons_zero, List.set_cons_succ]
                  refine wpAnyH_done (by kernel_rfl) ?_ _
                  refine NoPanic.normal ?_
                  have bel := KB1.out _ hHeld
                  go_wp2_with fail
                  exact bodyPost_ret (results_row_tmp rfl _ _ (w.heap.size + 1) tR E.toArray (0, 0) _ rfl HR.out Try.underlying42 rfl (by rw [size_16, List.size_toArray, El.out])) rfl ⟨rfl, bel⟩
              exact AllReadyH.nil
          exact AllReadyH.nil
      exact AllReadyH.nil
  exact AllReadyH.nil
set_option linter.unusedSimpArgs false in
set_option maxRecDepth 100000 in
set_option maxHeartbeats 2000000 in
theorem con_EncryptBad {kv : Value} {K S : List Int} {w : World} (hk : Bs w kv K) (lK : ¬ K.length = 32) (l : S.length = 16) (_ : byt S) :
    Calls Try.prog 24 #[kv, .agg (u8s S).toArray] w fun e w' => e = .returned (.tuple #[.agg (u8s (List.replicate 16 0)).toArray, .iface 29 (.int .i64 1)]) ∧ Below w.heap.size w w' := by
  have HSl : Hid (S.length = 16) := l
  have hz := zero_16.out
  obtain ⟨ao, cap, rfl, h1, h2, h3⟩ := hk
  clear h3 l
  have g1 : ¬ ((K.length : Nat) : Int) = 32 := by omega
  obtain ⟨FS, hFS⟩ : ∃ F, u8s (S) = F := ⟨_, rfl⟩
  have FSh : Hid (u8s (S) = FS) := hFS
  have FSl : Hid (FS.length = 16) := by show _ = _; rw [← hFS, u8s, List.length_map]; exact HSl.out
  have FSo : Hid (FS.toArray.all (·.oneCell') = true) := by rw [← hFS]; exact u8_ones _
  clear hFS
  rw [FSh.out]
  obtain ⟨E, hE⟩ : ∃ F, u8s (List.replicate 16 0) = F := ⟨_, rfl⟩
  have Eh : Hid (u8s (List.replicate 16 0) = E) := hE
  have El : Hid (E.length = 16) := by show _ = _; rw [← hE, u8s, List.length_map]; exact List.length_replicate
  have Eo : Hid (E.toArray.all (·.oneCell') = true) := by rw [← hE]; exact u8_ones _
  clear hE
  have R0 := Blk.new (w.alloc (.cells FS.toArray 42)) (u8s (List.replicate 16 0)) 42 (w.heap.size + 1) (by simp)
  have bel : Below w.heap.size w ((w.alloc (.cells FS.toArray 42)).alloc (.cells (u8s (List.replicate 16 0)).toArray 42)) := (((Below.refl _ _).alloc (Nat.le_refl _) _).alloc (by simp) _)
  rw [Eh.out] at hz R0 bel
  go_enter Try.func24, Try.ntmps24
  go_upto_region 1 with fail
  generalize (w.alloc (.cells FS.toArray 42)).alloc (.cells E.toArray 42) = W at *
  clear hz
  go_upto_region 2 with fail
  obtain ⟨tR, hR⟩ := R0
  have HR : Hid _ := hR
  clear hR
  go_wp2_with (first
    | (refine wpList_store_row rfl 42 _ _ rfl (w.heap.size + 1) (u8s (List.replicate 16 0)).toArray rfl rfl tR E.toArray HR.out (by rw [size_16]; rfl) (by rw [List.size_toArray, El.out]; rfl) (u8_ones _) ?_)
    | fail)
  exact bodyPost_ret (results_row_tmp rfl _ _ (w.heap.size + 1) tR (u8s (List.replicate 16 0)).toArray (0, 0) _ rfl (setRow_heap _ _ _ _ _ _ HR.out) Try.underlying42 rfl (by rw [size_16]; rfl)) rfl ⟨rfl, below_setRow bel (by omega) _⟩
end Go.Proofs.Ytogbmekgmjmonaa
