/- The document's Tag. -/
import Derived.Test.YtogbmekgmjmonaaRows
import Derived.Test.YtogbmekgmjmonaaGcCtr
import Derived.Test.YtogbmekgmjmonaaAeEnc
import Derived.Test.YtogbmekgmjmonaaGhWhole
import Derived.Test.YtogbmekgmjmonaaBase
import Derived.Test.YtogbmekgmjmonaaShape
import Derived.Test.YtogbmekgmjmonaaApBs
import Derived.Deep.OwnRows
import Derived.Deep.AppendLies
import Derived.Deep.WholeRow
import Derived.Deep.RegionHeld3
import Derived.Deep.DeepCutAuto
import Derived.Deep.DeepFit
namespace Go.Proofs.Ytogbmekgmjmonaa
open Go.RowKit

set_option linter.unusedSimpArgs false in
set_option maxRecDepth 100000 in
set_option maxHeartbeats 4000000 in
theorem r11_Tag {boxv kv nv av bv : Value} {K N AD H : List Int} {w : World} (hbox : Bs w boxv (boxN 256)) (hk : Bs w kv K) (hn : Bs w nv N) (ha : Bs w av AD) (hb : Bs w bv H) (bK : byt K) (lK : K.length = 32) (bN : byt N) (lN : N.length = 12) (bA : byt AD) (bH : byt H) (lA : AD.length ≤ 100000000000) (lH : H.length ≤ 100000000000) :
    Calls Try.prog 12 #[boxv, kv, nv, av, bv] w fun e w' => ∃ v' : Value, e = .returned v' ∧ w'.ownsRow w.heap.size 5 1 v' 16 (u8s (tagN K N AD H)) ∧ Below w.heap.size w w' := by
  have HBox : Hid (Bs w boxv (boxN 256)) := hbox
  have HK : Hid (Bs w kv K) := hk
  have HN : Hid (Bs w nv N) := hn
  have HAv : Hid (Bs w av AD) := ha
  have HHv : Hid (Bs w bv H) := hb
  have HKb : Hid (byt K) := bK
  have HKl : Hid (K.length = 32) := lK
  have HNb : Hid (byt N) := bN
  have HNl : Hid (N.length = 12) := lN
  have HAb : Hid (byt AD) := bA
  have HHb : Hid (byt H) := bH
  have HAl : Hid (AD.length ≤ 100000000000) := lA
  have HHl : Hid (H.length ≤ 100000000000) := lH
  clear hbox hk hn ha hb bK lK bN lN bA bH lA lH
  have hz := zero_16.out
  obtain ⟨i0, hi0, hz0, hz1, hz2⟩ := info_parts info_b16
  go_enter Try.func12, Try.ntmps12
  go_wp2_with fail
  refine (r9_Encrypt (S := List.replicate 16 0) HBox.out HK.out HKb.out HKl.out (byt_zeros 16) List.length_replicate).mono ?_
  rintro e w1 ⟨rfl, bel⟩
  go_wp2_with fail
  refine (r10_Whole (encN_len List.length_replicate 15) (encN_byt (byt_zeros 16) HKb.out 15) (HAv.out.later bel) HAb.out (HHv.out.later bel) HHb.out HAl.out HHl.out).mono ?_
  rintro e w2 ⟨rfl, hb⟩
  replace bel := below_step bel hb
  clear hb
  obtain ⟨X, hX⟩ : ∃ X, wholeB (encN K (List.replicate 16 0) 15) AD H = X := ⟨_, rfl⟩
  have HX : Hid (wholeB (encN K (List.replicate 16 0) 15) AD H = X) := hX
  have HXl : Hid (X.length = 16) := by show _ = _; rw [← hX]; exact hashB_len _ _
  rw [hX]
  clear hX
  obtain ⟨F, hF⟩ : ∃ F, u8s (X) = F := ⟨_, rfl⟩
  have Fh : Hid (u8s (X) = F) := hF
  have Fl : Hid (F.length = 16) := by show _ = _; rw [← hF, u8s, List.length_map]; exact HXl.out
  have Fo : Hid (F.toArray.all (·.oneCell') = true) := by rw [← hF]; exact u8_ones _
  clear hF
  rw [Fh.out]
  obtain ⟨Z, hZ⟩ : ∃ Z, (u8s (List.replicate 16 0)) = Z := ⟨_, rfl⟩
  have HZl : Hid (Z.length = 16) := by rw [← hZ]; rfl
  rw [hZ] at hz
  clear hZ
  have T0 := Blk.new w2 F 42 w2.heap.size rfl
  replace bel := below_alloc (o := .cells F.toArray 42) bel
  go_upto_region 2 with (first | (refine wpList_store_row rfl 42 _ _ rfl w2.heap.size F.toArray rfl rfl 42 Z.toArray (heap_alloc_last _ _) (by rw [size_16, List.size_toArray, Fl.out]) (by rw [List.size_toArray, List.size_toArray, Fl.out, HZl.out]) Fo.out ?_; rw [World.setRow_alloc_new]) | fail)
  obtain ⟨gt, hgt⟩ : ∃ g, g = w2.heap.size := ⟨_, rfl⟩
  generalize w2.alloc (Obj.cells F.toArray 42) = W3 at *
  rw [← hgt] at T0 ⊢
  clear hgt
  go_wp2_with fail
  refine (r11_counter (n := 1) (HN.out.later bel) HNl.out (by decide)).mono ?_
  rintro e w4 ⟨rfl, hb⟩
  replace T0 := T0.later hb
  replace bel := below_step bel hb
  clear hb
  go_wp2_with fail
  refine (r9_Encrypt (HBox.out.later bel) (HK.out.later bel) HKb.out HKl.out (ctrN_byt HNb.out 1) (ctrN_len N 1)).mono ?_
  rintro e w5 ⟨rfl, hb⟩
  replace T0 := T0.later hb
  replace bel := below_step bel hb
  clear hb
  obtain ⟨Y, hY⟩ : ∃ Y, encN K (ctrN N 1) 15 = Y := ⟨_, rfl⟩
  have HY : Hid (rowN K N 1 = Y) := hY
  have HYl : Hid (Y.length = 16) := by show _ = _; rw [← hY]; exact rowN_len K N 1
  rw [hY]
  clear hY
  obtain ⟨G, hG⟩ : ∃ F, u8s (Y) = F := ⟨_, rfl⟩
  have Gh : Hid (u8s (Y) = G) := hG
  have Gl : Hid (G.length = 16) := by show _ = _; rw [← hG, u8s, List.length_map]; exact HYl.out
  have Go : Hid (G.toArray.all (·.oneCell') = true) := by rw [← hG]; exact u8_ones _
  clear hG
  rw [Gh.out]
  have S0 := Blk.new w5 G 42 w5.heap.size rfl
  have lt0 := T0.lt
  replace T0 := T0.alloc (.cells G.toArray 42)
  replace bel := below_alloc (o := .cells G.toArray 42) bel
  go_upto_region 3 with (first | (refine wpList_store_row rfl 42 _ _ rfl w5.heap.size G.toArray rfl rfl 42 Z.toArray (heap_alloc_last _ _) (by rw [size_16, List.size_toArray, Gl.out]) (by rw [List.size_toArray, List.size_toArray, Gl.out, HZl.out]) Go.out ?_; rw [World.setRow_alloc_new]) | fail)
  obtain ⟨gs, hgs⟩ : ∃ g, g = w5.heap.size := ⟨_, rfl⟩
  generalize w5.alloc (Obj.cells G.toArray 42) = W at *
  rw [← hgs] at S0 lt0 ⊢
  clear hgs hz
  rw [← Fh.out] at T0
  rw [← Gh.out] at S0
  have HXY : Hid (xkN X Y = tagN K N AD H) := by show _ = _; rw [← HX.out, ← HY.out]; rfl
  clear HX HY
  go_wp2_with fail
  go_loopw [13, 14] (fun ov iv wx => ∃ k : Nat, k ≤ 16 ∧ iv = .int .i64 k ∧ wx.ownsRow W.heap.size 5 1 ov k (u8s ((xkN X Y).take k)) ∧ Below W.heap.size W wx) (fun _ iv _ => 16 - (intOf iv).toNat)
  case atStart => exact ⟨0, by omega, rfl, World.ownsRow_nil _ _ _ _, Below.refl _ _⟩
  case round =>
    obtain ⟨k, hk, rfl, own1, hby⟩ := hrel
    have hsy := hby.size
    by_cases hkl : k < 16
    · have u1 : (k : Int) < 16 := by omega
      have u2 : (0 : Int) ≤ (k : Int) := by omega
      have HNx0 := take_next (k := xkN X Y) (i := k) (by rw [xk_len]; exact hkl)
      rw [xk_get hkl] at HNx0
      have ct := T0.cell k _ (u8s_get X k (by rw [HXl.out]; exact hkl))
      have cq := S0.cell k _ (u8s_get Y k (by rw [HYl.out]; exact hkl))
      obtain ⟨ta, hta⟩ : ∃ z, X.getD k 0 = z := ⟨_, rfl⟩
      obtain ⟨qa, hqa⟩ : ∃ z, Y.getD k 0 = z := ⟨_, rfl⟩
      rw [hta] at HNx0 ct
      rw [hqa] at HNx0 cq
      obtain ⟨y, hy⟩ : ∃ z, bits .xor .u8 ta qa = z := ⟨_, rfl⟩
      rw [hy] at HNx0
      have HNx : Hid _ := HNx0
      clear HNx0 hta hqa
      obtain ⟨S1, hS1, KD1, KA1, KG1, KB1⟩ := held_row hby
      have r1 : ∀ wx, Hd S1 wx → wx.cell? ⟨gt, k, none⟩ = some (.int .u8 ta) := fun wx h => cell_later ct (KB1.out wx h)
      have r2 : ∀ wx, Hd S1 wx → wx.cell? ⟨gs, k, none⟩ = some (.int .u8 qa) := fun wx h => cell_later cq (KB1.out wx h)
      go_upto_region 7 with fail
      refine wp_region_noPanic ?_
      refine wp_region_held_drew (S := Hd S1) (by kernel_rfl) (KD1.out _ hS1) (fun hHeld => ?_)
      clear hS1
      have own2 : World.ownsRow (World.drew _) W.heap.size 5 1 _ k (u8s ((xkN X Y).take k)) := own1
      clear own1 hsy
      generalize World.drew _ = wd at *
      refine wpAnyH_take (i := 0) (v := ?_) rfl (by kernel_rfl) (by kernel_rfl) (by kernel_rfl) (fun _ _ _ h => h) (Or.inl ⟨by rfl, ?_⟩) (by assumption) ?_
      rotate_left
      · intro w hSw
        go_simp
        with_reducible rfl
      try simp only [Act.put, List.getElem_toArray, List.getElem_cons_zero, List.getElem_cons_succ, List.setIfInBounds_toArray, List.set_cons_zero, List.set_cons_succ]
      refine wpAnyH_take (i := 1) (v := ?_) rfl (by kernel_rfl) (by kernel_rfl) (by kernel_rfl) (fun _ _ _ h => h) (Or.inl ⟨by rfl, ?_⟩) (by assumption) ?_
      rotate_left
      · intro w hSw
        go_simp
        with_reducible rfl
      try simp only [Act.put, List.getElem_toArray, List.getElem_cons_zero, List.getElem_cons_succ, List.setIfInBounds_toArray, List.set_cons_zero, List.set_cons_succ]
      refine wpAnyH_take (i := 2) (v := ?_) rfl (by kernel_rfl) (by kernel_rfl) (by kernel_rfl) (fun _ _ _ h => h) (Or.inl ⟨by rfl, ?_⟩) (by assumption) ?_
      rotate_left
      · intro w hSw
        go_simp
        with_reducible rfl
      try simp only [Act.put, List.getElem_toArray, List.getElem_cons_zero, List.getElem_cons_succ, List.setIfInBounds_toArray, List.set_cons_zero, List.set_cons_succ]
      refine wpAnyH_take (i := 3) (v := ?_) rfl (by kernel_rfl) (by kernel_rfl) (by kernel_rfl) (fun _ _ _ h => h) (Or.inl ⟨by rfl, ?_⟩) (by assumption) ?_
      rotate_left
      · intro w hSw
        go_simp
        with_reducible rfl
      try simp only [Act.put, List.getElem_toArray, List.getElem_cons_zero, List.getElem_cons_succ, List.setIfInBounds_toArray, List.set_cons_zero, List.set_cons_succ]
      refine wpAnyH_take (i := 4) (v := ?_) rfl (by kernel_rfl) (by kernel_rfl) (by kernel_rfl) (fun _ _ _ h => h) (Or.inl ⟨by rfl, ?_⟩) (by assumption) ?_
      rotate_left
      · intro w hSw
        go_simp
        with_reducible rfl
      try simp only [Act.put, List.getElem_toArray, List.getElem_cons_zero, List.getElem_cons_succ, List.setIfInBounds_toArray, List.set_cons_zero, List.set_cons_succ]
      refine wpAnyH_take (i := 5) (v := ?_) rfl (by kernel_rfl) (by kernel_rfl) (by kernel_rfl) (fun _ _ _ h => h) (Or.inl ⟨by rfl, ?_⟩) (by assumption) ?_
      rotate_left
      · intro w hSw
        go_simp
        with_reducible rfl
      try simp only [Act.put, List.getElem_toArray, List.getElem_cons_zero, List.getElem_cons_succ, List.setIfInBounds_toArray, List.set_cons_zero, List.set_cons_succ]
      refine wpAnyH_take (i := 6) (v := ?_) rfl (by kernel_rfl) (by kernel_rfl) (by kernel_rfl) (fun _ _ _ h => h) (Or.inl ⟨by rfl, ?_⟩) (by assumption) ?_
      rotate_left
      · intro w hSw
        go_simp
        with_reducible rfl
      try simp only [Act.put, List.getElem_toArray, List.getElem_cons_zero, List.getElem_cons_succ, List.setIfInBounds_toArray, List.set_cons_zero, List.set_cons_succ]
      refine wpAnyH_take (i := 7) (v := ?_) rfl (by kernel_rfl) (by kernel_rfl) (by kernel_rfl) (fun _ _ _ h => h) (Or.inl ⟨by rfl, ?_⟩) (by assumption) ?_
      rotate_left
      · intro w hSw
        go_simp
        with_reducible rfl
      try simp only [Act.put, List.getElem_toArray, List.getElem_cons_zero, List.getElem_cons_succ, List.setIfInBounds_toArray, List.set_cons_zero, List.set_cons_succ]
      clear r1 r2
      have hsd := (KB1.out _ hHeld).size
      refine wpAnyH_ready (rs := [8]) (by kernel_rfl) (by simp) ?_
      refine AllReadyH.cons rfl (fun K hK => ?_) ?_
      · go_simp
        refine hK.out _ _ ?_ (fun hHeld2 => ?_)
        · exact KA1.out _ _ hHeld hsd
        · clear hK K hHeld
          have hHeld := hHeld2
          clear hHeld2
          try simp only [Act.put, List.getElem_toArray, List.getElem_cons_zero, List.getElem_cons_succ, List.setIfInBounds_toArray, List.set_cons_zero, List.set_cons_succ]
          refine wpAnyH_ready (rs := [9]) (by kernel_rfl) (by simp) ?_
          refine AllReadyH.cons rfl (fun K hK => ?_) ?_
          · rw [if_pos (by kernel_rfl)]
            refine wp_append_lies _ _ _ _ (by rfl) W.heap.size 5 i0 _ 1 1 Try.underlying22 hi0 hz0 hz1 hz2 rfl (by omega) _ k (u8s ((xkN X Y).take k)) (by rfl) (own2.alloc _) ⟨wd.heap.size, 0, none⟩ 1 1 [.int .u8 y] (by rfl) (by rfl) (World.news_of_block (cs := #[.int .u8 y]) (t := 5) (fr := (0, 0)) (heap_alloc_new wd _)) (by simp [Value.oneCell']) (by omega) (by unfold maxLen; omega) (by omega) (by simp; omega) (wd.heap.size + 1) (by simp) ?_
            intro gg cap1 w7 own7 hgrow hat hlt1
            refine hK.out _ _ ?_ (fun hHeld2 => ?_)
            · exact KG1.out _ _ _ hHeld hgrow (fun g hg => own_geA own2 hg) (by simp; omega)
            · clear hK K hHeld
              have hHeld := hHeld2
              clear hHeld2 hgrow hat
              try simp only [Act.put, List.getElem_toArray, List.getElem_cons_zero, List.getElem_cons_succ, List.setIfInBounds_toArray, List.set_cons_zero, List.set_cons_succ]
              refine wpAnyH_ready (rs := [10]) (by kernel_rfl) (by simp) ?_
              refine AllReadyH.cons rfl (fun K hK => ?_) ?_
              · go_simp
                refine hK.out _ _ ?_ (fun hHeld2 => ?_)
                · exact hHeld
                · clear hK K hHeld
                  have hHeld := hHeld2
                  clear hHeld2
                  try simp only [Act.put, List.getElem_toArray, List.getElem_cons_zero, List.getElem_cons_succ, List.setIfInBounds_toArray, List.set_cons_zero, List.set_cons_succ]
                  refine wpAnyH_done (by kernel_rfl) ?_ _
                  refine NoPanic.normal ?_
                  have hby2 := KB1.out _ hHeld
                  have own8 : w7.ownsRow W.heap.size 5 1 (.slice (some ⟨gg, 0, none⟩) (k + 1) cap1) (k + 1) (u8s ((xkN X Y).take k ++ [y])) := by simpa [u8s] using own7
                  rw [HNx.out] at own8
                  clear hHeld own7 own2
                  go_wp2_with fail
                  go_roundw
                  case rel => exact ⟨k + 1, by omega, by go_num, own8, hby2⟩
                  case measure => simp [intOf]; omega
              exact AllReadyH.nil
          exact AllReadyH.nil
      exact AllReadyH.nil
    · have HKk : Hid (k = 16) := by show k = 16; omega
      have u1 : (16 : Int) ≤ (k : Int) := by omega
      rw [HKk.out, List.take_of_length_le (by rw [xk_len]; exact Nat.le_refl _), HXY.out] at own1
      have bs := bel.size
      go_wp2_with fail
      go_ret
      exact ⟨_, rfl, own_lower own1 bs, below_step bel hby⟩
end Go.Proofs.Ytogbmekgmjmonaa
