/- The document's Hash. -/
import Derived.Test.YtogbmekgmjmonaaRows
import Derived.Test.YtogbmekgmjmonaaGhFill
import Derived.Test.YtogbmekgmjmonaaGhMul
import Derived.Test.YtogbmekgmjmonaaShape
import Derived.Test.YtogbmekgmjmonaaWpRowG
import Derived.Deep.WholeRow
import Derived.Deep.RegionHeld3
import Derived.Deep.DeepCutAuto
import Derived.Deep.DeepFit
namespace Go.Proofs.Ytogbmekgmjmonaa
open Go.RowKit

theorem r10_MulL {A B : List Int} {F G K : List Value} {w : World} (hF : u8s A = F) (hG : u8s B = G) (hK : u8s (mulB A B) = K) (lA : A.length = 16) (bA : byt A) (lB : B.length = 16) (bB : byt B) :
    Calls Try.prog 40 #[.agg F.toArray, .agg G.toArray] w fun e w' => e = .returned (.agg K.toArray) ∧ Below w.heap.size w w' := by
  subst hF hG hK
  exact r10_Mul lA bA lB bB
set_option linter.unusedSimpArgs false in
set_option maxRecDepth 100000 in
set_option maxHeartbeats 4000000 in
theorem r10_Hash {H B : List Int} {v : Value} {w : World} (lH : H.length = 16) (bH : byt H) (hv : Bs w v B) (bB : byt B) (l : B.length ≤ 1099511627776) :
    Calls Try.prog 33 #[.agg (u8s H).toArray, v] w fun e w' => e = .returned (.agg (u8s (hashB H B)).toArray) ∧ Below w.heap.size w w' := by
  obtain ⟨FH, hFH⟩ : ∃ F, u8s H = F := ⟨_, rfl⟩
  have FHh : Hid (u8s H = FH) := hFH
  have FHl : Hid (FH.length = 16) := by rw [← hFH, List.length_map]; exact lH
  have HH : Hid (byt H ∧ H.length = 16) := ⟨bH, lH⟩
  have HBb : Hid (byt B) := bB
  rw [hFH]
  clear hFH lH bH bB
  have hz := zero_16.out
  have B0 := (Blk.new w FH 42 w.heap.size rfl).alloc (.cells (u8s (List.replicate 16 0)).toArray 42)
  have R0 := Blk.new (w.alloc (.cells FH.toArray 42)) (u8s (List.replicate 16 0)) 42 (w.heap.size + 1) (by simp)
  have bel : Below w.heap.size w ((w.alloc (.cells FH.toArray 42)).alloc (.cells (u8s (List.replicate 16 0)).toArray 42)) := (((Below.refl _ _).alloc (Nat.le_refl _) _).alloc (by simp) _)
  obtain ⟨Z, hZ⟩ : ∃ Z, (u8s (List.replicate 16 0)) = Z := ⟨_, rfl⟩
  have HZ : Hid ((u8s (List.replicate 16 0)) = Z) := hZ
  have HZl : Hid (Z.length = 16) := by rw [← hZ]; rfl
  rw [hZ] at hz B0 R0 bel
  clear hZ
  have hv0 := hv
  obtain ⟨ao, cap, rfl, c1, c2, c3⟩ := hv0
  clear c3
  unfold maxLen at c1
  go_enter Try.func33, Try.ntmps33
  go_upto_region 1 with fail
  generalize ((w.alloc (.cells FH.toArray 42)).alloc (.cells Z.toArray 42)) = W at *
  replace hv := hv.later bel
  go_wp2_with fail
  refine (r10_Filled hv l).mono ?_
  rintro e w1 ⟨v1, rfl, own1, hb⟩
  replace B0 := B0.later hb
  replace R0 := R0.later hb
  replace bel := below_step bel hb
  have bC := Bs.of_own own1
  have HCb : Hid (byt (filF B)) := filF_byt HBb.out
  have HCl : Hid ((filF B).length = 16 * ((B.length + 15) / 16)) := filF_len B
  obtain ⟨C, hC⟩ : ∃ C, filF B = C := ⟨_, rfl⟩
  have HC : Hid (hashQ H C (C.length / 16) = hashB H B) := by rw [← hC]; rfl
  rw [hC] at bC HCb HCl
  obtain ⟨n, hn⟩ : ∃ n, (B.length + 15) / 16 = n := ⟨_, rfl⟩
  have nl : n ≤ 68719476737 := by omega
  rw [hn] at HCl
  have HQ : Hid (hashQ H C n = hashB H B) := by have := HC.out; rw [HCl.out, Nat.mul_div_cancel_left _ (by decide)] at this; exact this
  clear hb hC hn own1 HC hv
  have bC0 := bC
  obtain ⟨a1, k1, rfl, d1, d2, d3⟩ := bC0
  unfold maxLen at d1
  obtain ⟨m, hm⟩ : ∃ m, C.length = m := ⟨_, rfl⟩
  have HM : Hid (m = 16 * n) := by rw [← hm]; exact HCl.out
  have HD3 : Hid _ := d3
  rw [hm] at d2 HD3 bC ⊢
  clear hm d3 HCl
  have BY := Blk.new w1 Z 42 w1.heap.size rfl
  have hbg : Below w1.heap.size w1 (w1.alloc (.cells Z.toArray 42)) := (Below.refl _ _).alloc (Nat.le_refl _) _
  have gw : w.heap.size + 1 < w1.heap.size := R0.lt
  go_wp2_with fail
  clear hz
  obtain ⟨gy, hgy⟩ : ∃ g, g = w1.heap.size := ⟨_, rfl⟩
  generalize w1.alloc (.cells Z.toArray 42) = W5 at *
  rw [← hgy] at BY hbg gw ⊢
  have HGY : Hid (gy = w1.heap.size) := hgy
  clear hgy
  rw [← HZ.out] at BY
  go_loopw [7] (fun iv wx => ∃ q : Nat, q ≤ n ∧ iv = .int .i64 (16 * (q : Int)) ∧ Blk wx gy (u8s (hashQ H C q)) ∧ Below gy w1 wx) (fun iv _ => m + 1 - (intOf iv).toNat)
  case atStart => exact ⟨0, by omega, rfl, BY, hbg⟩
  case round =>
    clear BY hbg
    obtain ⟨q, hq, rfl, BY, hbg⟩ := hrel
    have hm1 : m ≤ 16 * n := by rw [HM.out]; omega
    have hm2 : 16 * n ≤ m := by rw [HM.out]; omega
    by_cases hql : q < n
    · have gA : 16 * (q : Int) < (m : Int) := by omega
      have gi : IntKind.i64.wrap (16 * (q : Int) + 16) = 16 * (q : Int) + 16 := by rw [IntKind.wrap_i64]; omega
      obtain ⟨b1, o1, rfl, pl, pc⟩ := HD3.out (by omega)
      have HPC : Hid _ := pc
      replace pl : b1 < gy := by rw [HGY.out]; exact pl
      clear pc
      go_wp2_with fail
      obtain ⟨Y, hY⟩ : ∃ Y, hashQ H C q = Y := ⟨_, rfl⟩
      have HYb : Hid (byt Y ∧ Y.length = 16) := by rw [← hY]; exact ⟨hashQ_byt _ _ _, hashQ_len _ _ _⟩
      have HYn : Hid (hashQ H C (q + 1) = mulB (xkN Y (bkQ C q)) H) := by rw [← hY]; rfl
      rw [hY] at BY
      clear hY
      obtain ⟨wo, hwo⟩ : ∃ z, z = wr := ⟨_, rfl⟩
      rw [← hwo] at BY hbg ⊢
      clear hwo
      rw [← xkZ_0 (Y := bkQ C q) HYb.out.2] at BY
      go_loopw [8] (fun kv wx => ∃ k : Nat, k ≤ 16 ∧ kv = .int .i64 k ∧ Blk wx gy (u8s (xkZ Y (bkQ C q) k)) ∧ Below gy w1 wx) (fun kv _ => 16 - (intOf kv).toNat)
      case atStart => exact ⟨0, by omega, rfl, BY, hbg⟩
      case round =>
        clear BY hbg
        obtain ⟨k, hk, rfl, BY, hbg⟩ := hrel
        by_cases hkl : k < 16
        · have gB : (k : Int) < 16 := by omega
          have g0 : (0 : Int) ≤ (k : Int) := by omega
          have gk : IntKind.i64.wrap ((k : Int) + 1) = (k : Int) + 1 := by rw [IntKind.wrap_i64]; omega
          have ga : IntKind.i64.wrap (16 * (q : Int) + (k : Int)) = 16 * (q : Int) + (k : Int) := by rw [IntKind.wrap_i64]; omega
          have g1 : (0 : Int) ≤ 16 * (q : Int) + (k : Int) := by omega
          have g2 : 16 * (q : Int) + (k : Int) < (m : Int) := by omega
          have g3 : (16 * (q : Int) + (k : Int)).toNat = 16 * q + k := by omega
          have cC := HPC.out (16 * q + k) (by omega)
          have HS : Hid _ := xkZ_set (X := Y) (Y := bkQ C q) (k := k)
          rw [bkQ_get hkl] at HS
          have cY := u8s_get (xkZ Y (bkQ C q) k) k (by rw [xkZ_len]; exact hkl)
          rw [xkZ_get hkl] at cY
          obtain ⟨x, hx⟩ : ∃ x, C.getD (16 * q + k) 0 = x := ⟨_, rfl⟩
          obtain ⟨y, hy⟩ : ∃ y, Y.getD k 0 = y := ⟨_, rfl⟩
          rw [hx] at cC HS
          rw [hy] at cY HS
          clear hx hy
          have fz := BY.frozen k
          have lty := BY.lt
          go_upto_region 9 with fail
          obtain ⟨S1, hS1, KD1, KC1, KB1⟩ := held_below (g := gy) hbg (Nat.le_refl _)
          have rc : ∀ wx, Hd S1 wx → wx.cell? ⟨b1, o1 + (16 * q + k), none⟩ = some (.int .u8 x) := fun wx h => ((KB1.out wx h).cell (p := ⟨b1, o1 + (16 * q + k), none⟩) pl).trans cC
          clear cC hbg
          refine wp_region_noPanic ?_
          refine wp_region_held_drew (S := Hd S1) (by kernel_rfl) (KD1.out _ hS1) (fun hHeld => ?_)
          clear hS1
          replace BY := BY.drew
          replace fz : World.frozen? (World.drew _) ⟨gy, k, none⟩ = false := fz
          replace lty : gy < (World.drew _).heap.size := lty
          generalize World.drew _ = wd at *
          refine wpAnyH_take (i := 0) (v := ?_) rfl (by kernel_rfl) (by kernel_rfl) (by kernel_rfl) (fun _ _ _ h => h) (Or.inl ⟨by rfl, ?_⟩) (by assumption) ?_
          rotate_left
          · intro w hSw
            go_simp
            with_reducible rfl
          try simp only [Act.put, List.getElem_toArray, List.getElem_cons_zero, List.getElem_cons_succ, List.setIfInBounds_toArray, List.set_cons_zero, List.set_cons_succ]
          refine wpAnyH_take (i := 1) (v := ?_) rfl (by kernel_rfl) (by kernel_rfl) (by kernel_rfl) (fun _ _ _ h => h) (Or.inl ⟨by rfl, ?_⟩) (by assumption) ?_
          rotate_left
          · intro w hSw
            go_simp
            with_reducible rfl
          try simp only [Act.put, List.getElem_toArray, List.getElem_cons_zero, List.getElem_cons_succ, List.setIfInBounds_toArray, List.set_cons_zero, List.set_cons_succ]
          refine wpAnyH_take (i := 2) (v := ?_) rfl (by kernel_rfl) (by kernel_rfl) (by kernel_rfl) (fun _ _ _ h => h) (Or.inl ⟨by rfl, ?_⟩) (by assumption) ?_
          rotate_left
          · intro w hSw
            go_simp
            with_reducible rfl
          try simp only [Act.put, List.getElem_toArray, List.getElem_cons_zero, List.getElem_cons_succ, List.setIfInBounds_toArray, List.set_cons_zero, List.set_cons_succ]
          refine wpAnyH_take (i := 4) (v := ?_) rfl (by kernel_rfl) (by kernel_rfl) (by kernel_rfl) (fun _ _ _ h => h) (Or.inl ⟨by rfl, ?_⟩) (by assumption) ?_
          rotate_left
          · intro w hSw
            go_simp
            with_reducible rfl
          try simp only [Act.put, List.getElem_toArray, List.getElem_cons_zero, List.getElem_cons_succ, List.setIfInBounds_toArray, List.set_cons_zero, List.set_cons_succ]
          refine wpAnyH_take (i := 5) (v := ?_) rfl (by kernel_rfl) (by kernel_rfl) (by kernel_rfl) (fun _ _ _ h => h) (Or.inl ⟨by rfl, ?_⟩) (by assumption) ?_
          rotate_left
          · intro w hSw
            go_simp
            with_reducible rfl
          try simp only [Act.put, List.getElem_toArray, List.getElem_cons_zero, List.getElem_cons_succ, List.setIfInBounds_toArray, List.set_cons_zero, List.set_cons_succ]
          refine wpAnyH_take (i := 6) (v := ?_) rfl (by kernel_rfl) (by kernel_rfl) (by kernel_rfl) (fun _ _ _ h => h) (Or.inl ⟨by rfl, ?_⟩) (by assumption) ?_
          rotate_left
          · intro w hSw
            go_simp
            with_reducible rfl
          try simp only [Act.put, List.getElem_toArray, List.getElem_cons_zero, List.getElem_cons_succ, List.setIfInBounds_toArray, List.set_cons_zero, List.set_cons_succ]
          refine wpAnyH_take (i := 7) (v := ?_) rfl (by kernel_rfl) (by kernel_rfl) (by kernel_rfl) (fun _ _ _ h => h) (Or.inl ⟨by rfl, ?_⟩) (by assumption) ?_
          rotate_left
          · intro w hSw
            go_simp
            with_reducible rfl
          try simp only [Act.put, List.getElem_toArray, List.getElem_cons_zero, List.getElem_cons_succ, List.setIfInBounds_toArray, List.set_cons_zero, List.set_cons_succ]
          refine wpAnyH_take (i := 8) (v := ?_) rfl (by kernel_rfl) (by kernel_rfl) (by kernel_rfl) (fun _ _ _ h => h) (Or.inl ⟨by rfl, ?_⟩) (by assumption) ?_
          rotate_left
          · intro w hSw
            go_simp
            with_reducible rfl
          try simp only [Act.put, List.getElem_toArray, List.getElem_cons_zero, List.getElem_cons_succ, List.setIfInBounds_toArray, List.set_cons_zero, List.set_cons_succ]
          refine wpAnyH_take (i := 9) (v := ?_) rfl (by kernel_rfl) (by kernel_rfl) (by kernel_rfl) (fun _ _ _ h => h) (Or.inl ⟨by rfl, ?_⟩) (by assumption) ?_
          rotate_left
          · intro w hSw
            go_simp
            with_reducible rfl
          try simp only [Act.put, List.getElem_toArray, List.getElem_cons_zero, List.getElem_cons_succ, List.setIfInBounds_toArray, List.set_cons_zero, List.set_cons_succ]
          clear rc
          have cg := BY.cell k _ cY
          refine wpAnyH_ready (rs := [3]) (by kernel_rfl) (by simp) ?_
          refine AllReadyH.cons rfl (fun K hK => ?_) ?_
          · go_simp
            refine hK.out _ _ ?_ (fun hHeld2 => ?_)
            · exact hHeld
            · clear hK K hHeld
              have hHeld := hHeld2
              clear hHeld2
              try simp only [Act.put, List.getElem_toArray, List.getElem_cons_zero, List.getElem_cons_succ, List.setIfInBounds_toArray, List.set_cons_zero, List.set_cons_succ]
              refine wpAnyH_take (i := 10) (v := ?_) rfl (by kernel_rfl) (by kernel_rfl) (by kernel_rfl) (fun _ _ _ h => h) (Or.inl ⟨by rfl, ?_⟩) (by assumption) ?_
              rotate_left
              · intro w hSw
                go_simp
                with_reducible rfl
              try simp only [Act.put, List.getElem_toArray, List.getElem_cons_zero, List.getElem_cons_succ, List.setIfInBounds_toArray, List.set_cons_zero, List.set_cons_succ]
              refine wpAnyH_take (i := 11) (v := ?_) rfl (by kernel_rfl) (by kernel_rfl) (by kernel_rfl) (fun _ _ _ h => h) (Or.inl ⟨by rfl, ?_⟩) (by assumption) ?_
              rotate_left
              · intro w hSw
                go_simp
                with_reducible rfl
              try simp only [Act.put, List.getElem_toArray, List.getElem_cons_zero, List.getElem_cons_succ, List.setIfInBounds_toArray, List.set_cons_zero, List.set_cons_succ]
              refine wpAnyH_ready (rs := [12]) (by kernel_rfl) (by simp) ?_
              refine AllReadyH.cons rfl (fun K hK => ?_) ?_
              · go_simp
                refine hK.out _ _ ?_ (fun hHeld2 => ?_)
                · exact KC1.out _ _ _ hHeld
                · clear hK K hHeld
                  have hHeld := hHeld2
                  clear hHeld2
                  try simp only [Act.put, List.getElem_toArray, List.getElem_cons_zero, List.getElem_cons_succ, List.setIfInBounds_toArray, List.set_cons_zero, List.set_cons_succ]
                  replace BY := BY.setb k (bits .xor .u8 y x)
                  rw [HS.out] at BY
                  clear cg
                  refine wpAnyH_done (by kernel_rfl) ?_ _
                  refine NoPanic.normal ?_
                  have hbg := KB1.out _ hHeld
                  go_wp2_with fail
                  go_roundw
                  case rel => exact ⟨k + 1, by omega, by go_num, BY, hbg⟩
                  case measure => simp [intOf]; omega
              exact AllReadyH.nil
          exact AllReadyH.nil
        · have HK : Hid (k = 16) := by show k = 16; omega
          have gB : ¬ (k : Int) < 16 := by omega
          rw [HK.out] at BY
          obtain ⟨F, hF⟩ : ∃ F, u8s (xkN Y (bkQ C q)) = F := ⟨_, rfl⟩
          have HF : Hid (u8s (xkN Y (bkQ C q)) = F) := hF
          have HFl : Hid (F.length = 16) := by rw [← hF, List.length_map]; exact xk_len _ _
          have HXb : Hid (byt (xkN Y (bkQ C q))) := xkN_byt HYb.out.1 (bkQ_byt HCb.out q)
          replace BY : Blk wr gy F := by rw [← hF]; exact BY
          clear hF
          have B0x := (B0.below hbg (by rw [HGY.out]; exact B0.lt))
          have HB0x : Hid (Blk wr w.heap.size FH) := B0x
          clear B0x
          obtain ⟨G, hG⟩ : ∃ G, u8s (mulB (xkN Y (bkQ C q)) H) = G := ⟨_, rfl⟩
          have HGl : Hid (G.length = 16) := by rw [← hG, List.length_map]; exact mulB_len _ _
          have HGo : Hid (G.toArray.all (·.oneCell') = true) := by rw [← hG]; exact u8_ones _
          have HGh : Hid (u8s (mulB (xkN Y (bkQ C q)) H) = G) := hG
          clear hG
          have lgy := BY.lt
          go_wp2_with (first
            | (refine wpList_load_run (by rfl) (by rfl) (by rfl) (BY.load Try.underlying42 rfl size_16 HFl.out) ?_)
            | (refine wpList_load_run (by rfl) (by rfl) (by rfl) (HB0x.out.load Try.underlying42 rfl size_16 FHl.out) ?_)
            | fail)
          refine (r10_MulL HF.out FHh.out HGh.out (xk_len _ _) HXb.out HH.out.2 HH.out.1).mono ?_
          rintro e w4 ⟨rfl, hb⟩
          replace BY := BY.later hb
          replace hbg := hbg.trans (hb.mono (by omega))
          clear hb HB0x
          obtain ⟨tY, hYt⟩ := BY
          have HYt : Hid _ := hYt
          clear hYt
          go_wp2_with (first
            | (refine wpList_store_row rfl 42 _ _ rfl gy G.toArray rfl rfl tY F.toArray HYt.out (by rw [size_16, List.size_toArray, HGl.out]) (by rw [List.size_toArray, List.size_toArray, HGl.out, HFl.out]) HGo.out ?_)
            | fail)
          go_roundw
          case rel => exact ⟨q + 1, by omega, by rw [show 16 * (q : Int) + 16 = 16 * ((q + 1 : Nat) : Int) by omega], by rw [HYn.out, HGh.out]; exact ⟨tY, setRow_heap _ _ _ _ _ _ HYt.out⟩, below_setRow hbg (Nat.le_refl _) _⟩
          case measure => simp [intOf]; omega
    · have HQn : Hid (q = n) := by show q = n; omega
      have gA : ¬ 16 * (q : Int) < (m : Int) := by omega
      rw [HQn.out, HQ.out] at BY
      have hb6 : Below w.heap.size w wr := bel.trans (hbg.mono (by omega))
      replace R0 := R0.below hbg gw
      obtain ⟨F, hF⟩ : ∃ F, u8s (hashB H B) = F := ⟨_, rfl⟩
      have HF : Hid (u8s (hashB H B) = F) := hF
      have HFl : Hid (F.length = 16) := by rw [← hF, List.length_map]; exact hashB_len H B
      have HFo : Hid (F.toArray.all (·.oneCell') = true) := by rw [← hF]; exact u8_ones _
      rw [hF] at BY
      clear hF
      obtain ⟨tR, hR⟩ := R0
      have HR : Hid _ := hR
      clear hR
      go_wp2_with (first
        | (refine wpList_load_run (by rfl) (by rfl) (by rfl) (BY.load Try.underlying42 rfl size_16 HFl.out) ?_
           refine wpList_store_row rfl 42 _ _ rfl (w.heap.size + 1) F.toArray rfl rfl tR Z.toArray HR.out (by rw [size_16, List.size_toArray, HFl.out]) (by rw [List.size_toArray, List.size_toArray, HFl.out, HZl.out]) HFo.out ?_)
        | fail)
      exact bodyPost_ret (results_cell_row Try.results33 _ _ (w.heap.size + 1) tR F.toArray (0, 0) _ rfl (setRow_heap _ _ _ _ _ _ HR.out) Try.underlying42 rfl (by rw [size_16, List.size_toArray, HFl.out])) rfl ⟨by rw [HF.out], below_setRow hb6 (by omega) _⟩
end Go.Proofs.Ytogbmekgmjmonaa
