/- The law's head of layer 14. -/
import Derived.Test.YtjpnbbhpgchbpaaGreatDoorRows
import Derived.Test.YtjpnbbhpgchbpaaGreatDoorEdG
import Derived.Test.YtjpnbbhpgchbpaaGreatDoorEcG
import Derived.Test.YtjpnbbhpgchbpaaGreatDoorBase
import Derived.Test.YtjpnbbhpgchbpaaGreatDoorCCode
import Derived.Test.YtjpnbbhpgchbpaaGreatDoorWpRowG
import Derived.Deep.OwnRows
import Derived.Deep.AppendLies
import Derived.Great.BuildSlice
import Derived.Laws.Rows
import Derived.Deep.WholeRow
import Derived.Deep.RegionHeld3
import Derived.Deep.DeepCutAuto
import Derived.Deep.DeepFit
namespace Go.Proofs.YtjpnbbhpgchbpaaGreatDoor
open Go.RowKit

theorem ne_codeE (c : Int) : ∀ w : World, (binOp .neq 30 (.iface 34 (.int .i64 c)) .nilIface).run Tryz.prog w = .ok (.bool true) w := fun _ => by kernel_rfl
theorem ne_nilE : ∀ w : World, (binOp .neq 30 .nilIface .nilIface).run Tryz.prog w = .ok (.bool false) w := fun _ => by kernel_rfl
theorem iface_eqE (c : Int) : ∀ w : World, (binOp .eql 30 (.iface 34 (.int .i64 c)) (.iface 34 (.int .i64 c))).run Tryz.prog w = .ok (.bool true) w := fun w => by
  have : (binOp .eql 30 (.iface 34 (.int .i64 c)) (.iface 34 (.int .i64 c))).run Tryz.prog w = .ok (.bool (decide (c = c))) w := by kernel_rfl
  rw [this]; simp
theorem g_raw : P13R [.int .u64 4203087948775033527, .int .u64 6125724927633205612, .int .u64 6482722621138151992, .int .u64 7934563412932533144, .int .u64 10282218360005504372, .int .u64 12288012358878168375, .int .u64 8809917716911230559, .int .u64 747793036959711645, .int .u64 16850834916486723776, .int .u64 17938995913990739068, .int .u64 6745997240412855337, .int .u64 3897828414440483951, .bool false] GX GY false := by
  refine ⟨[.int .u64 4203087948775033527, .int .u64 6125724927633205612, .int .u64 6482722621138151992, .int .u64 7934563412932533144, .int .u64 10282218360005504372, .int .u64 12288012358878168375, .int .u64 8809917716911230559, .int .u64 747793036959711645, .int .u64 16850834916486723776, .int .u64 17938995913990739068, .int .u64 6745997240412855337, .int .u64 3897828414440483951, .bool false].take 6, ([.int .u64 4203087948775033527, .int .u64 6125724927633205612, .int .u64 6482722621138151992, .int .u64 7934563412932533144, .int .u64 10282218360005504372, .int .u64 12288012358878168375, .int .u64 8809917716911230559, .int .u64 747793036959711645, .int .u64 16850834916486723776, .int .u64 17938995913990739068, .int .u64 6745997240412855337, .int .u64 3897828414440483951, .bool false].drop 6).take 6, rfl, ⟨_, _, _, _, _, _, rfl, fits6 (by decide), by decide +kernel⟩, ⟨_, _, _, _, _, _, rfl, fits6 (by decide), by decide +kernel⟩⟩
theorem on_Gaff : Aff GX GY := on_G
theorem byt_48 : byt (List.replicate 48 0) := fun j => by
  by_cases h : j < 48
  · rw [List.getD_eq_getElem?_getD, List.getElem?_replicate, if_pos h]; decide
  · rw [List.getD_eq_getElem?_getD, List.getElem?_replicate, if_neg h]; decide
theorem info_48 : (Tryz.prog.info? 5).map (fun i => (i.zero, i.size, i.bytes)) = some (some (.int .u8 0), 1, 1) := by kernel_rfl
theorem mk_48 : ∀ w : World, (Instr.makeSlice 25 (.int .i64 48) (.int .i64 48)).run Tryz.prog w = .ok (.slice (some ⟨w.heap.size, 0, none⟩) 48 48) (w.alloc (.cells (u8s (List.replicate 48 0)).toArray 5)) := fun w => by
  have := run_make_row' 25 5 (.int .u8 0) 1 Tryz.underlying25 info_48 rfl .i64 .i64 48 (by omega) (by omega) w
  rw [made_zero] at this
  exact this
theorem bs_made (w : World) : Bs (w.alloc (.cells (u8s (List.replicate 48 0)).toArray 5)) (.slice (some ⟨w.heap.size, 0, none⟩) 48 48) (List.replicate 48 0) := by
  have B := Blk.new w (u8s (List.replicate 48 0)) 5 w.heap.size rfl
  exact B.bs (by simp) (by unfold maxLen; omega)
set_option linter.unusedSimpArgs false in
set_option maxRecDepth 100000 in
set_option maxHeartbeats 1000000 in
theorem con_up14 {w : World} (G : GA w) : Calls Tryz.prog 7 #[] w fun e w' => e = .returned (.bool true) ∧ Below w.heap.size w w' := by
  have HG : Hid (GA w) := G
  clear G
  have q1 := iface_eqE 3
  obtain ⟨CZ, hCZ⟩ : ∃ c, (u8s (List.replicate 48 0)).toArray = c := ⟨_, rfl⟩
  have mk := mk_48
  rw [hCZ] at mk
  have HCZ : Hid ((u8s (List.replicate 48 0)).toArray = CZ) := hCZ
  clear hCZ
  go_enter Tryz.func7, Tryz.ntmps7
  go_upto_region 1 with fail
  obtain ⟨S1, hS1, KB1, KI1, KD1, KL1, KA1⟩ : ∃ S : World → Prop, Hd S w ∧ Hid (∀ wx, Hd S wx → Below w.heap.size w wx) ∧ Hid (∀ wx, Below w.heap.size w wx → Hd S wx) ∧ Hid (∀ wx, Hd S wx → Hd S wx.drew) ∧ Hid (∀ w1 w2, Hd S w1 → Below w1.heap.size w1 w2 → Hd S w2) ∧ Hid (∀ w1 o, Hd S w1 → Hd S (w1.alloc o)) := ⟨fun wx => Below w.heap.size w wx, Below.refl _ _, fun _ h => h, fun _ h => h, fun wx h => Below.drew h, fun w1 w2 h hb => below_step h hb, fun w1 o h => Below.alloc h h.size o⟩
  refine wp_region_noPanic ?_
  refine wp_region_held_drew (S := Hd S1) (by kernel_rfl) (KD1.out _ hS1) (fun hHeld => ?_)
  clear hS1
  generalize World.drew _ = wd1 at *
  refine wpAnyH_take (i := 2) (v := ?_) rfl (by kernel_rfl) (by kernel_rfl) (by kernel_rfl) (fun _ _ _ h => h) (Or.inl ⟨by rfl, ?_⟩) (by assumption) ?_
  rotate_left
  · intro w hSw
    go_simp
    with_reducible rfl
  try simp only [Act.put, List.getElem_toArray, List.getElem_cons_zero, List.getElem_cons_succ, List.setIfInBounds_toArray, List.set_cons_zero, List.set_cons_succ]
  refine wpAnyH_ready (rs := [0, 1]) (by kernel_rfl) (by simp) ?_
  refine AllReadyH.cons rfl (fun K hK => ?_) ?_
  · go_simp
    refine (con_G (HG.out.1.below (KB1.out _ hHeld))).mono ?_
    rintro e w1 ⟨rfl, hb⟩
    refine hK.out _ _ ?_ (fun hHeld2 => ?_)
    · exact KL1.out _ _ hHeld hb
    · clear hK K
      try clear hHeld
      have hHeld := hHeld2
      clear hHeld2
      try simp only [Act.put, List.getElem_toArray, List.getElem_cons_zero, List.getElem_cons_succ, List.setIfInBounds_toArray, List.set_cons_zero, List.set_cons_succ]
      clear hb
      refine wpAnyH_ready (rs := [1]) (by kernel_rfl) (by simp) ?_
      refine AllReadyH.cons rfl (fun K hK => ?_) ?_
      · go_simp
        refine hK.out _ _ ?_ (fun hHeld2 => ?_)
        · exact KA1.out _ _ hHeld
        · clear hK K
          try clear hHeld
          have hHeld := hHeld2
          clear hHeld2
          try simp only [Act.put, List.getElem_toArray, List.getElem_cons_zero, List.getElem_cons_succ, List.setIfInBounds_toArray, List.set_cons_zero, List.set_cons_succ]
          have hBs : Bs (w1.alloc (.cells CZ 5)) (.slice (some ⟨w1.heap.size, 0, none⟩) 48 48) (List.replicate 48 0) := by rw [← HCZ.out]; exact bs_made _
          refine wpAnyH_ready (rs := [3]) (by kernel_rfl) (by simp) ?_
          refine AllReadyH.cons rfl (fun K hK => ?_) ?_
          · go_simp
            refine (con_Verify0 (HG.out.below (KB1.out _ hHeld)) hBs byt_48 (by simp)).mono ?_
            rintro e w3 ⟨rfl, hb⟩
            refine hK.out _ _ ?_ (fun hHeld2 => ?_)
            · exact KL1.out _ _ hHeld hb
            · clear hK K
              try clear hHeld
              have hHeld := hHeld2
              clear hHeld2
              try simp only [Act.put, List.getElem_toArray, List.getElem_cons_zero, List.getElem_cons_succ, List.setIfInBounds_toArray, List.set_cons_zero, List.set_cons_succ]
              clear hb hBs
              refine wpAnyH_ready (rs := [4]) (by kernel_rfl) (by simp) ?_
              refine AllReadyH.cons rfl (fun K hK => ?_) ?_
              · go_simp
                refine hK.out _ _ ?_ (fun hHeld2 => ?_)
                · exact hHeld
                · clear hK K
                  try clear hHeld
                  have hHeld := hHeld2
                  clear hHeld2
                  try simp only [Act.put, List.getElem_toArray, List.getElem_cons_zero, List.getElem_cons_succ, List.setIfInBounds_toArray, List.set_cons_zero, List.set_cons_succ]
                  refine wpAnyH_done (by kernel_rfl) ?_ _
                  refine NoPanic.normal ?_
                  have bel := KB1.out _ hHeld
                  clear hHeld
                  generalize hX : w3 = X at *
                  clear hX
                  go_upto_region 2 with fail
                  have hBs : Bs (X.alloc (.cells CZ 5)) (.slice (some ⟨X.heap.size, 0, none⟩) 48 48) (List.replicate 48 0) := by rw [← HCZ.out]; exact bs_made _
                  have belX : Below w.heap.size w (X.alloc (.cells CZ 5)) := below_alloc bel
                  go_wp2_with fail
                  refine (con_Sign0 (HG.out.below belX) U6.one hBs byt_48).mono ?_
                  rintro e w4 ⟨rfl, hb⟩
                  have bel9 := below_alloc (o := .cells #[.int .u64 0, .int .u64 0, .int .u64 0, .int .u64 0, .int .u64 0, .int .u64 0, .int .u64 0, .int .u64 0, .int .u64 0, .int .u64 0, .int .u64 0, .int .u64 0] 28) (below_step belX hb)
                  have hz := zero_s.out
                  clear hb hBs
                  go_upto_region 3 with (first | (refine wpList_store_row rfl 28 _ _ rfl w4.heap.size #[.int .u64 0, .int .u64 0, .int .u64 0, .int .u64 0, .int .u64 0, .int .u64 0, .int .u64 0, .int .u64 0, .int .u64 0, .int .u64 0, .int .u64 0, .int .u64 0] rfl rfl 28 _ (heap_alloc_last _ _) (by rw [size_s]; rfl) rfl (by simp [Value.oneCell']) ?_; rw [World.setRow_alloc_new]) | fail)
                  clear hz
                  generalize w4.alloc (.cells #[.int .u64 0, .int .u64 0, .int .u64 0, .int .u64 0, .int .u64 0, .int .u64 0, .int .u64 0, .int .u64 0, .int .u64 0, .int .u64 0, .int .u64 0, .int .u64 0] 28) = Y at *
                  go_wp2_with fail
                  go_ret
                  exact ⟨rfl, bel9⟩
              exact AllReadyH.nil
          exact AllReadyH.nil
      exact AllReadyH.nil
  refine AllReadyH.cons rfl (fun K hK => ?_) ?_
  · go_simp
    refine hK.out _ _ ?_ (fun hHeld2 => ?_)
    · exact KA1.out _ _ hHeld
    · clear hK K
      try clear hHeld
      have hHeld := hHeld2
      clear hHeld2
      try simp only [Act.put, List.getElem_toArray, List.getElem_cons_zero, List.getElem_cons_succ, List.setIfInBounds_toArray, List.set_cons_zero, List.set_cons_succ]
      have hBs : Bs (wd1.alloc (.cells CZ 5)) (.slice (some ⟨wd1.heap.size, 0, none⟩) 48 48) (List.replicate 48 0) := by rw [← HCZ.out]; exact bs_made _
      refine wpAnyH_ready (rs := [0]) (by kernel_rfl) (by simp) ?_
      refine AllReadyH.cons rfl (fun K hK => ?_) ?_
      · go_simp
        refine (con_G (HG.out.1.below (KB1.out _ hHeld))).mono ?_
        rintro e w1 ⟨rfl, hb⟩
        refine hK.out _ _ ?_ (fun hHeld2 => ?_)
        · exact KL1.out _ _ hHeld hb
        · clear hK K
          try clear hHeld
          have hHeld := hHeld2
          clear hHeld2
          try simp only [Act.put, List.getElem_toArray, List.getElem_cons_zero, List.getElem_cons_succ, List.setIfInBounds_toArray, List.set_cons_zero, List.set_cons_succ]
          replace hBs := hBs.later hb
          clear hb
          refine wpAnyH_ready (rs := [3]) (by kernel_rfl) (by simp) ?_
          refine AllReadyH.cons rfl (fun K hK => ?_) ?_
          · go_simp
            refine (con_Verify0 (HG.out.below (KB1.out _ hHeld)) hBs byt_48 (by simp)).mono ?_
            rintro e w3 ⟨rfl, hb⟩
            refine hK.out _ _ ?_ (fun hHeld2 => ?_)
            · exact KL1.out _ _ hHeld hb
            · clear hK K
              try clear hHeld
              have hHeld := hHeld2
              clear hHeld2
              try simp only [Act.put, List.getElem_toArray, List.getElem_cons_zero, List.getElem_cons_succ, List.setIfInBounds_toArray, List.set_cons_zero, List.set_cons_succ]
              clear hb hBs
              refine wpAnyH_ready (rs := [4]) (by kernel_rfl) (by simp) ?_
              refine AllReadyH.cons rfl (fun K hK => ?_) ?_
              · go_simp
                refine hK.out _ _ ?_ (fun hHeld2 => ?_)
                · exact hHeld
                · clear hK K
                  try clear hHeld
                  have hHeld := hHeld2
                  clear hHeld2
                  try simp only [Act.put, List.getElem_toArray, List.getElem_cons_zero, List.getElem_cons_succ, List.setIfInBounds_toArray, List.set_cons_zero, List.set_cons_succ]
                  refine wpAnyH_done (by kernel_rfl) ?_ _
                  refine NoPanic.normal ?_
                  have bel := KB1.out _ hHeld
                  clear hHeld
                  generalize hX : w3 = X at *
                  clear hX
                  go_upto_region 2 with fail
                  have hBs : Bs (X.alloc (.cells CZ 5)) (.slice (some ⟨X.heap.size, 0, none⟩) 48 48) (List.replicate 48 0) := by rw [← HCZ.out]; exact bs_made _
                  have belX : Below w.heap.size w (X.alloc (.cells CZ 5)) := below_alloc bel
                  go_wp2_with fail
                  refine (con_Sign0 (HG.out.below belX) U6.one hBs byt_48).mono ?_
                  rintro e w4 ⟨rfl, hb⟩
                  have bel9 := below_alloc (o := .cells #[.int .u64 0, .int .u64 0, .int .u64 0, .int .u64 0, .int .u64 0, .int .u64 0, .int .u64 0, .int .u64 0, .int .u64 0, .int .u64 0, .int .u64 0, .int .u64 0] 28) (below_step belX hb)
                  have hz := zero_s.out
                  clear hb hBs
                  go_upto_region 3 with (first | (refine wpList_store_row rfl 28 _ _ rfl w4.heap.size #[.int .u64 0, .int .u64 0, .int .u64 0, .int .u64 0, .int .u64 0, .int .u64 0, .int .u64 0, .int .u64 0, .int .u64 0, .int .u64 0, .int .u64 0, .int .u64 0] rfl rfl 28 _ (heap_alloc_last _ _) (by rw [size_s]; rfl) rfl (by simp [Value.oneCell']) ?_; rw [World.setRow_alloc_new]) | fail)
                  clear hz
                  generalize w4.alloc (.cells #[.int .u64 0, .int .u64 0, .int .u64 0, .int .u64 0, .int .u64 0, .int .u64 0, .int .u64 0, .int .u64 0, .int .u64 0, .int .u64 0, .int .u64 0, .int .u64 0] 28) = Y at *
                  go_wp2_with fail
                  go_ret
                  exact ⟨rfl, bel9⟩
              exact AllReadyH.nil
          exact AllReadyH.nil
      exact AllReadyH.nil
  exact AllReadyH.nil
end Go.Proofs.YtjpnbbhpgchbpaaGreatDoor
