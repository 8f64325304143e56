/- The program's added. -/
import Derived.Test.YtlkljfnenonfgaaGreatDoorGhCodeG
import Derived.Test.YtlkljfnenonfgaaGreatDoorAeCodeX
import Derived.Test.YtlkljfnenonfgaaGreatDoorAeNumG
import Derived.Test.YtlkljfnenonfgaaGreatDoorRows
import Derived.Laws.CopyOwn
import Derived.Deep.RegionLaw
import Derived.Deep.WholeRow
import Derived.Deep.RegionHeld3
import Derived.Deep.DeepCutAuto
import Derived.Deep.DeepFit
namespace Go.Proofs.YtlkljfnenonfgaaGreatDoor
open Go.RowKit
theorem add_none (b o j:Nat):(⟨b,o,none⟩:Addr).add j=⟨b,o + j,none⟩:=by unfold Addr.add;split<;>simp_all
theorem size_u8g:(Tryz.prog.info? 5).map (·.size)=some 1:=by kernel_rfl
theorem u8s_one (A:List Int):∀ v∈u8s A,v.oneCell'=true:=fun v hv=>by
 obtain ⟨x,_,rfl⟩:=List.mem_map.1 hv
 rfl
theorem splice_bk {B:List Int} {q n:Nat} (hn:16 * q=n) (h:n < B.length):splice (u8s (List.replicate 16 0)) 0 (u8s ((B.drop n).take 16))=u8s (bkQ (filF B) q):=by
 subst hn
 rw [bkQ_fil h,u8s,u8s,u8s,List.map_append]
 unfold splice
 rw [List.take_zero,List.nil_append,List.map_drop,List.length_map,List.length_take,List.length_drop,Nat.zero_add]
set_option linter.unusedSimpArgs false in
set_option maxRecDepth 100000 in
set_option maxHeartbeats 4000000 in
theorem con_added {H Y B : List Int} {v : Value} {w : World} (lH : H.length = 16) (bH : byt H) (lY : Y.length = 16) (bY : byt Y) (hv : Bs w v B) (bB : byt B) (l : B.length ≤ 1099511627776) :
    Calls Tryz.prog 82 #[.agg (u8s H).toArray, .agg (u8s Y).toArray, v] w fun e w' => e = .returned (.agg (u8s (addB H Y B)).toArray) ∧ Below w.heap.size w w' := by
  have HHb : Hid (byt H ∧ H.length = 16) := ⟨bH, lH⟩
  have HYb : Hid (byt Y ∧ Y.length = 16) := ⟨bY, lY⟩
  have HBb : Hid (byt B) := bB
  have HL : Hid (B.length ≤ 1099511627776) := l
  have HV : Hid (Bs w v B) := hv
  clear lH bH lY bY bB
  have hz := zero_16.out
  obtain ⟨FH, hFH⟩ : ∃ F, u8s (H) = F := ⟨_, rfl⟩
  have FHh : Hid (u8s (H) = FH) := hFH
  have FHl : Hid (FH.length = 16) := by show _ = _; rw [← hFH, u8s, List.length_map]; exact HHb.out.2
  have FHo : Hid (FH.toArray.all (·.oneCell') = true) := by rw [← hFH]; exact u8_ones _
  clear hFH
  rw [FHh.out]
  obtain ⟨FY, hFY⟩ : ∃ F, u8s (Y) = F := ⟨_, rfl⟩
  have FYh : Hid (u8s (Y) = FY) := hFY
  have FYl : Hid (FY.length = 16) := by show _ = _; rw [← hFY, u8s, List.length_map]; exact HYb.out.2
  have FYo : Hid (FY.toArray.all (·.oneCell') = true) := by rw [← hFY]; exact u8_ones _
  clear hFY
  rw [FYh.out]
  have B0 := ((Blk.new w FH 91 w.heap.size rfl).alloc (.cells FY.toArray 91)).alloc (.cells (u8s (List.replicate 16 0)).toArray 91)
  have BY := (Blk.new (w.alloc (.cells FH.toArray 91)) FY 91 (w.heap.size + 1) (by simp)).alloc (.cells (u8s (List.replicate 16 0)).toArray 91)
  have R0 := Blk.new ((w.alloc (.cells FH.toArray 91)).alloc (.cells FY.toArray 91)) (u8s (List.replicate 16 0)) 91 (w.heap.size + 1 + 1) (by simp)
  have bel : Below w.heap.size w (((w.alloc (.cells FH.toArray 91)).alloc (.cells FY.toArray 91)).alloc (.cells (u8s (List.replicate 16 0)).toArray 91)) := ((((Below.refl _ _).alloc (Nat.le_refl _) _).alloc (by simp) _).alloc (by simp; omega) _)
  obtain ⟨Z, hZ⟩ : ∃ Z, (u8s (List.replicate 16 0)) = Z := ⟨_, rfl⟩
  have HZ : Hid ((u8s (List.replicate 16 0)) = Z) := hZ
  have HZl : Hid (Z.length = 16) := by rw [← hZ]; rfl
  rw [hZ] at hz B0 BY R0 bel
  clear hZ
  obtain ⟨ao, cap, rfl, c1, c2, c3⟩ := hv
  clear c3
  unfold maxLen at c1
  go_enter Tryz.func82, Tryz.ntmps82
  go_upto_region 1 with fail
  generalize (((w.alloc (.cells FH.toArray 91)).alloc (.cells FY.toArray 91)).alloc (.cells Z.toArray 91)) = W at *
  replace BY : Blk W (w.heap.size + 1) (u8s (addQ H Y (filF B) 0)) := by rw [← FYh.out] at BY; exact BY
  go_wp2_with fail
  go_loopw [7] (fun iv wx => ∃ q : Nat, q ≤ nbQ B ∧ iv = .int .i64 (16 * (q : Int)) ∧ Blk wx (w.heap.size + 1) (u8s (addQ H Y (filF B) q)) ∧ Blk wx w.heap.size FH ∧ Blk wx (w.heap.size + 1 + 1) Z ∧ Below w.heap.size w wx) (fun iv _ => B.length + 16 - (intOf iv).toNat)
  case atStart => exact ⟨0, Nat.zero_le _, rfl, BY, B0, R0, bel⟩
  case round =>
    clear BY B0 R0 bel
    obtain ⟨q, hq, rfl, BY, B0, R0, bel⟩ := hrel
    obtain ⟨n, hn⟩ : ∃ n, 16 * q = n := ⟨_, rfl⟩
    have HN : Hid (16 * q = n) := hn
    have en : 16 * (q : Int) = (n : Int) := by omega
    rw [en]
    have hl := HL.out
    have hnb : nbQ B = (B.length + 15) / 16 := rfl
    by_cases hql : n < B.length
    · have HQ : Hid (q + 1 ≤ nbQ B) := by show q + 1 ≤ nbQ B; omega
      have gA : (n : Int) < ((B.length : Nat) : Int) := by omega
      have gi : IntKind.i64.wrap ((n : Int) + 16) = (n : Int) + 16 := by rw [IntKind.wrap_i64]; omega
      have g0 : (0 : Int) ≤ (n : Int) := by omega
      have hbs := HV.out.later bel
      obtain ⟨a1, k1, e1, _, _, d3⟩ := hbs
      obtain ⟨rfl, _, rfl⟩ : ao = a1 ∧ B.length = B.length ∧ cap = k1 := by simpa using e1
      obtain ⟨b, o, rfl, hb0, hc0⟩ := d3 (by omega)
      clear e1 d3
      have HSp : Hid _ := splice_bk (B := B) hn hql
      rw [HZ.out] at HSp
      have HCs : Hid (∀ j v, (u8s ((B.drop n).take 16))[j]? = some v → wr.cell? ⟨b, o + n + j, none⟩ = some v) := fun j v hv => by
        have hj := (List.getElem?_eq_some_iff.1 hv).1
        rw [u8s, List.length_map, List.length_take, List.length_drop] at hj
        rw [u8s_get _ j (by rw [List.length_take, List.length_drop]; exact hj)] at hv
        rw [show o + n + j = o + (n + j) by omega, hc0 (n + j) (by omega), ← hv, List.getD_eq_getElem?_getD, List.getD_eq_getElem?_getD, List.getElem?_take, if_pos (by omega), List.getElem?_drop]
      have HCn : Hid ((u8s ((B.drop n).take 16)).length = min (B.length - n) 16) := by show _ = _; rw [u8s, List.length_map, List.length_take, List.length_drop]; omega
      obtain ⟨cs, hcs⟩ : ∃ cs, u8s ((B.drop n).take 16) = cs := ⟨_, rfl⟩
      have HC1 : Hid (∀ v ∈ cs, v.oneCell' = true) := by rw [← hcs]; exact u8s_one _
      rw [hcs] at HSp HCs HCn
      clear hcs hc0 hn en
      have V0 := Blk.new wr Z 91 wr.heap.size rfl
      replace HCs : Hid (∀ j v, cs[j]? = some v → (wr.alloc (.cells Z.toArray 91)).cell? ⟨b, o + n + j, none⟩ = some v) := fun j v hv => (((Below.refl wr.heap.size wr).alloc (Nat.le_refl _) (.cells Z.toArray 91)).cell (p := ⟨b, o + n + j, none⟩) hb0).trans (HCs.out j v hv)
      have lY := BY.lt
      have l0 := B0.lt
      have lR := R0.lt
      replace BY := BY.alloc (.cells Z.toArray 91)
      replace B0 := B0.alloc (.cells Z.toArray 91)
      replace R0 := R0.alloc (.cells Z.toArray 91)
      have lw := bel.size
      replace bel := below_alloc (o := .cells Z.toArray 91) bel
      go_upto_region 5 with fail
      obtain ⟨g, hg⟩ : ∃ g, g = wr.heap.size := ⟨_, rfl⟩
      rw [← hg] at V0 lY l0 lR lw ⊢
      generalize wr.alloc (Obj.cells Z.toArray 91) = W1 at *
      clear hg hb0
      obtain ⟨t0, ht0⟩ := V0
      have HT0 : Hid _ := ht0
      have lW1 := (Array.getElem?_eq_some_iff.1 ht0).1
      clear ht0
      have bW : Below g W1 W1 := ⟨rfl, rfl, rfl, by omega, fun _ _ => rfl⟩
      obtain ⟨W0, hW0⟩ : ∃ z, z = W1 := ⟨_, rfl⟩
      have bW0 : Below g W0 W1 := by rw [hW0]; exact bW
      have HW0 : Hid (W0 = W1) := hW0
      clear bW hW0
      have gn : (n : Int) ≤ ((B.length : Nat) : Int) := by omega
      have gc : n ≤ B.length := by omega
      have gk : n ≤ cap := by omega
      have gx : ¬ cap = n := by omega
      go_region_law (refine step_copy_splice rfl (.tmp 15) (.tmp 18) 27 27 rfl 5 Tryz.underlying27 size_u8g _ _ _ _ _ _ (by rfl) (by rfl) g 0 Z t0 HT0.out cs HCn.out (fun _ => ⟨rfl, ⟨b, o + n, none⟩, rfl, fun j v hv => by rw [add_none]; exact HCs.out j v hv⟩) (by rw [HZl.out, HCn.out]; omega) HC1.out g W0 bW0.drew (Nat.le_refl _) ?_; intro w2 hg2 hb2)
      clear HCs HCn HC1 HT0 gn gc gk gx
      rw [HSp.out] at hg2
      have V2 : Blk w2 g (u8s (bkQ (filF B) q)) := ⟨t0, hg2.out⟩
      have hb3 : Below g W1 w2 := by rw [← HW0.out]; exact hb2
      replace BY := BY.below hb3 lY
      replace B0 := B0.below hb3 l0
      replace R0 := R0.below hb3 lR
      replace bel := bel.trans (hb3.mono lw)
      clear hb2 hb3 hg2 HSp bW0 HW0 lW1
      obtain ⟨X, hX⟩ : ∃ X, addQ H Y (filF B) q = X := ⟨_, rfl⟩
      have HXl : Hid (X.length = 16) := by show _ = _; rw [← hX]; exact addQ_len HYb.out.2 _
      have HXb : Hid (byt X) := by show byt X; rw [← hX]; exact addQ_byt HYb.out.1 _
      have HE : Hid (mulB (xkN X (bkQ (filF B) q)) H = addQ H Y (filF B) (q + 1)) := by show _ = _; rw [← hX]; rfl
      rw [hX] at BY
      clear hX
      obtain ⟨C, hC⟩ : ∃ C, bkQ (filF B) q = C := ⟨_, rfl⟩
      have HCb : Hid (byt C) := by show byt C; rw [← hC]; exact bkQ_byt (filF_byt HBb.out) q
      have HCl : Hid (C.length = 16) := by show _ = _; rw [← hC, bkQ, List.length_take, List.length_drop, filF_len]; have := HN.out; omega
      rw [hC] at V2 HE
      clear hC
      obtain ⟨FX, hFX⟩ : ∃ F, u8s (X) = F := ⟨_, rfl⟩
      have FXh : Hid (u8s (X) = FX) := hFX
      have FXl : Hid (FX.length = 16) := by show _ = _; rw [← hFX, u8s, List.length_map]; exact HXl.out
      have FXo : Hid (FX.toArray.all (·.oneCell') = true) := by rw [← hFX]; exact u8_ones _
      clear hFX
      obtain ⟨FC, hFC⟩ : ∃ F, u8s (C) = F := ⟨_, rfl⟩
      have FCh : Hid (u8s (C) = FC) := hFC
      have FCl : Hid (FC.length = 16) := by show _ = _; rw [← hFC, u8s, List.length_map]; exact HCl.out
      have FCo : Hid (FC.toArray.all (·.oneCell') = true) := by rw [← hFC]; exact u8_ones _
      clear hFC
      obtain ⟨FK, hFK⟩ : ∃ F, u8s (xkN X C) = F := ⟨_, rfl⟩
      have FKh : Hid (u8s (xkN X C) = FK) := hFK
      have FKl : Hid (FK.length = 16) := by show _ = _; rw [← hFK, u8s, List.length_map]; exact xk_len _ _
      have FKo : Hid (FK.toArray.all (·.oneCell') = true) := by rw [← hFK]; exact u8_ones _
      clear hFK
      obtain ⟨E, hE⟩ : ∃ F, u8s (mulB (xkN X C) H) = F := ⟨_, rfl⟩
      have Eh : Hid (u8s (mulB (xkN X C) H) = E) := hE
      have El : Hid (E.length = 16) := by show _ = _; rw [← hE, u8s, List.length_map]; exact mulB_len _ _
      have Eo : Hid (E.toArray.all (·.oneCell') = true) := by rw [← hE]; exact u8_ones _
      clear hE
      rw [FXh.out] at BY
      rw [FCh.out] at V2
      go_upto_region 6 with fail
      obtain ⟨S1, hS1, KL1, KA1, KD1, KS1, KQ1, KN1, KB1, KM1, KR1⟩ := held3 (w0 := w) (W := w2) [(w.heap.size, FH), (w.heap.size + 1 + 1, Z), (g, FC)] (by
        intro b X h
        simp only [List.mem_cons, List.not_mem_nil, or_false, Prod.mk.injEq] at h
        rcases h with ⟨rfl, rfl⟩ | ⟨rfl, rfl⟩ | ⟨rfl, rfl⟩
        · exact B0
        · exact R0
        · exact V2) bel
      have rh : Hid (∀ wx, Hd S1 wx → (loadVar 91 ⟨w.heap.size, 0, none⟩).run Tryz.prog wx = .ok (.agg FH.toArray) wx) := fun wx h => (KM1.out wx _ _ h (List.Mem.head _)).load Tryz.underlying91 rfl size_16 FHl.out
      have rc : Hid (∀ wx, Hd S1 wx → (loadVar 91 ⟨g, 0, none⟩).run Tryz.prog wx = .ok (.agg FC.toArray) wx) := fun wx h => (KM1.out wx _ _ h (List.Mem.tail _ (List.Mem.tail _ (List.Mem.head _)))).load Tryz.underlying91 rfl size_16 FCl.out
      have lY2 := BY.lt
      clear KS1 KA1 KN1 KQ1 B0 R0 V2 bel
      refine wp_region_noPanic ?_
      refine wp_region_held_drew (S := Hd S1) (by kernel_rfl) (KD1.out _ hS1) (fun hHeld => ?_)
      clear hS1
      replace BY := BY.drew
      generalize World.drew _ = wd at *
      refine wpAnyH_take (i := 1) (v := .agg FC.toArray) rfl (by kernel_rfl) (by kernel_rfl) (by kernel_rfl) (fun _ _ _ h => h) (Or.inl ⟨by rfl, fun wx h => exec_load rfl rfl (rc.out wx h)⟩) (by assumption) ?_
      try simp only [Act.put, List.getElem_toArray, List.getElem_cons_zero, List.getElem_cons_succ, List.setIfInBounds_toArray, List.set_cons_zero, List.set_cons_succ]
      refine wpAnyH_take (i := 3) (v := .agg FH.toArray) rfl (by kernel_rfl) (by kernel_rfl) (by kernel_rfl) (fun _ _ _ h => h) (Or.inl ⟨by rfl, fun wx h => exec_load rfl rfl (rh.out wx h)⟩) (by assumption) ?_
      try simp only [Act.put, List.getElem_toArray, List.getElem_cons_zero, List.getElem_cons_succ, List.setIfInBounds_toArray, List.set_cons_zero, List.set_cons_succ]
      refine wpAnyH_ready (rs := [0]) (by kernel_rfl) (by simp) ?_
      refine AllReadyH.cons rfl (fun K hK => ?_) ?_
      · rw [if_pos (by rfl)]
        refine wp_load_run rfl rfl (BY.load Tryz.underlying91 rfl size_16 FXl.out) ?_
        refine hK.out _ _ ?_ (fun hHeld2 => ?_)
        · exact hHeld
        · clear hK K hHeld
          have hHeld := hHeld2
          clear hHeld2
          try simp only [Act.put, List.getElem_toArray, List.getElem_cons_zero, List.getElem_cons_succ, List.setIfInBounds_toArray, List.set_cons_zero, List.set_cons_succ]
          refine wpAnyH_ready (rs := [2]) (by kernel_rfl) (by simp) ?_
          refine AllReadyH.cons rfl (fun K hK => ?_) ?_
          · go_simp
            refine (con_gxoredL FXh.out FCh.out FKh.out HXl.out HCl.out).mono ?_
            rintro e w5 ⟨rfl, hb⟩
            refine hK.out _ _ ?_ (fun hHeld2 => ?_)
            · exact KL1.out _ _ hHeld hb
            · clear hK K hHeld
              have hHeld := hHeld2
              clear hHeld2
              try simp only [Act.put, List.getElem_toArray, List.getElem_cons_zero, List.getElem_cons_succ, List.setIfInBounds_toArray, List.set_cons_zero, List.set_cons_succ]
              replace BY := BY.later hb
              clear hb
              refine wpAnyH_ready (rs := [4]) (by kernel_rfl) (by simp) ?_
              refine AllReadyH.cons rfl (fun K hK => ?_) ?_
              · go_simp
                refine (con_MulG FKh.out FHh.out Eh.out (xk_len _ _) (xkN_byt HXb.out HCb.out) HHb.out.2 HHb.out.1).mono ?_
                rintro e w6 ⟨rfl, hb⟩
                refine hK.out _ _ ?_ (fun hHeld2 => ?_)
                · exact KL1.out _ _ hHeld hb
                · clear hK K hHeld
                  have hHeld := hHeld2
                  clear hHeld2
                  try simp only [Act.put, List.getElem_toArray, List.getElem_cons_zero, List.getElem_cons_succ, List.setIfInBounds_toArray, List.set_cons_zero, List.set_cons_succ]
                  replace BY := BY.later hb
                  clear hb
                  refine wpAnyH_ready (rs := [5]) (by kernel_rfl) (by simp) ?_
                  refine AllReadyH.cons rfl (fun K hK => ?_) ?_
                  · obtain ⟨tV, hV⟩ := BY
                    rw [if_pos (by rfl)]
                    refine wp_store_row 91 _ _ rfl (w.heap.size + 1) E.toArray rfl rfl tV FX.toArray hV (by rw [size_16, List.size_toArray, El.out]) (by rw [List.size_toArray, List.size_toArray, El.out, FXl.out]) Eo.out ?_
                    refine hK.out _ _ ?_ (fun hHeld2 => ?_)
                    · exact KR1.out _ _ _ hHeld (.inr (by intro c X h; simp only [List.mem_cons, List.not_mem_nil, or_false, Prod.mk.injEq] at h; rcases h with ⟨rfl, rfl⟩ | ⟨rfl, rfl⟩ | ⟨rfl, rfl⟩ <;> omega)) (by omega)
                    · clear hK K hHeld
                      have hHeld := hHeld2
                      clear hHeld2
                      try simp only [Act.put, List.getElem_toArray, List.getElem_cons_zero, List.getElem_cons_succ, List.setIfInBounds_toArray, List.set_cons_zero, List.set_cons_succ]
                      refine wpAnyH_done (by kernel_rfl) ?_ _
                      refine NoPanic.normal ?_
                      have B0 := KM1.out _ _ _ hHeld (List.Mem.head _)
                      have R0 := KM1.out _ _ _ hHeld (List.Mem.tail _ (List.Mem.head _))
                      have bel := KB1.out _ hHeld
                      have V3 : Blk (w6.setRow (w.heap.size + 1) E.toArray) (w.heap.size + 1) (u8s (addQ H Y (filF B) (q + 1))) := by rw [← HE.out, Eh.out]; exact ⟨tV, setRow_heap _ _ _ _ _ _ hV⟩
                      clear hHeld hV
                      generalize World.setRow _ _ _ = w9 at *
                      go_wp2_with fail
                      go_roundw
                      case rel => exact ⟨q + 1, HQ.out, by rw [show (n : Int) + 16 = 16 * ((q + 1 : Nat) : Int) by have := HN.out; omega], V3, B0, R0, bel⟩
                      case measure => simp [intOf]; omega
                  exact AllReadyH.nil
              exact AllReadyH.nil
          exact AllReadyH.nil
      exact AllReadyH.nil
    · have HQn : Hid (q = nbQ B) := by show q = nbQ B; omega
      have gA : ¬ (n : Int) < ((B.length : Nat) : Int) := by omega
      rw [HQn.out] at BY
      obtain ⟨F, hF⟩ : ∃ F, u8s (addB H Y B) = F := ⟨_, rfl⟩
      have HF : Hid (u8s (addB H Y B) = F) := hF
      have HFl : Hid (F.length = 16) := by rw [← hF, List.length_map]; exact addB_len HYb.out.2
      have HFo : Hid (F.toArray.all (·.oneCell') = true) := by rw [← hF]; exact u8_ones _
      replace BY : Blk wr (w.heap.size + 1) F := by rw [← hF]; exact BY
      clear hF
      obtain ⟨tR, hR⟩ := R0
      have HR : Hid _ := hR
      clear hR
      go_wp2_with (first
        | (refine wpList_load_run (by rfl) (by rfl) (by rfl) (BY.load Tryz.underlying91 rfl size_16 HFl.out) ?_
           refine wpList_store_row rfl 91 _ _ rfl (w.heap.size + 1 + 1) F.toArray rfl rfl tR Z.toArray HR.out (by rw [size_16, List.size_toArray, HFl.out]) (by rw [List.size_toArray, List.size_toArray, HFl.out, HZl.out]) HFo.out ?_)
        | fail)
      exact bodyPost_ret (results_cell_row Tryz.results82 _ _ (w.heap.size + 1 + 1) tR F.toArray (0, 0) _ rfl (setRow_heap _ _ _ _ _ _ HR.out) Tryz.underlying91 rfl (by rw [size_16, List.size_toArray, HFl.out])) rfl ⟨by rw [HF.out], below_setRow bel (by omega) _⟩
theorem con_addedL {H Y B:List Int} {F G K:List Value} {v:Value} {w:World} (hF:u8s H=F) (hG:u8s Y=G) (hK:u8s (addB H Y B)=K) (lH:H.length=16) (bH:byt H) (lY:Y.length=16) (bY:byt Y) (hv:Bs w v B) (bB:byt B) (l:B.length≤1099511627776) :
  Calls Tryz.prog 82 #[.agg F.toArray,.agg G.toArray,v] w fun e w'=>e=.returned (.agg K.toArray)∧Below w.heap.size w w':=by
 subst hF hG hK
 exact con_added lH bH lY bY hv bB l
end Go.Proofs.YtlkljfnenonfgaaGreatDoor
