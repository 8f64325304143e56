/- ecdsa.inRange and bothInRange. What ecdsa.Sign and Verify answer of numbers that are 0. -/
import Derived.Test.YtjpnbbhpgchbpaaGreatDoorRows
import Derived.Test.YtjpnbbhpgchbpaaGreatDoorEdG
import Derived.Test.YtjpnbbhpgchbpaaGreatDoorEdLowG
import Derived.Test.YtjpnbbhpgchbpaaGreatDoorWpRowG
import Derived.Test.YtjpnbbhpgchbpaaGreatDoorBase
import Derived.Deep.OwnRows
import Derived.Deep.AppendLies
import Derived.Great.BuildSlice
import Derived.Laws.Rows
import Derived.BigQuiet
import Derived.Deep.WholeRow
import Derived.Deep.RegionHeld3
import Derived.Deep.DeepCutAuto
import Derived.Deep.DeepFit
import Derived.Test.YtjpnbbhpgchbpaaGreatDoorDrOwn
namespace Go.Proofs.YtjpnbbhpgchbpaaGreatDoor
open Go.RowKit

set_option linter.unusedSimpArgs false in
set_option maxRecDepth 100000 in
set_option maxHeartbeats 1000000 in
theorem c14_inRange {cs : List Value} {x : Int} {w : World} (G : GlsO w) (h : U6 cs x) :
    Calls Tryz.prog 36 #[.agg cs.toArray] w fun e w' => e = .returned (.bool (decide (isSc x))) ∧ Below w.heap.size w w' := by
  have HU : Hid (U6 cs x) := h
  have HLa : Hid (cs.length = 6) := h.len
  have hx := h.bd
  clear h
  have B0 := Blk.new w cs 24 w.heap.size rfl
  have bel : Below w.heap.size w (w.alloc (.cells cs.toArray 24)) := (Below.refl _ _).alloc (Nat.le_refl _) _
  have HG : Hid (GlsO w) := G
  clear G
  go_enter Tryz.func36, Tryz.ntmps36
  go_upto_region 1 with fail
  generalize w.alloc (.cells cs.toArray 24) = W at *
  obtain ⟨S1, hS1, KB1, KI1, KD1, KL1, KA1⟩ : ∃ S : World → Prop, Hd S W ∧ Hid (∀ wx, Hd S wx → Below W.heap.size W wx) ∧ Hid (∀ wx, Below W.heap.size W wx → Hd S wx) ∧ Hid (∀ wx, Hd S wx → Hd S wx.drew) ∧ Hid (∀ w1 w2, Hd S w1 → Below w1.heap.size w1 w2 → Hd S w2) ∧ Hid (∀ w1 o, Hd S w1 → Hd S (w1.alloc o)) := ⟨fun wx => Below W.heap.size W wx, Below.refl _ _, fun _ h => h, fun _ h => h, fun wx h => Below.drew h, fun w1 w2 h hb => below_step h hb, fun w1 o h => Below.alloc h h.size o⟩
  have HB0 : Hid (Blk W w.heap.size cs) := B0
  have r0 : Hid (∀ wx, Hd S1 wx → (loadVar 24 ⟨w.heap.size, 0, none⟩).run Tryz.prog wx = .ok (.agg cs.toArray) wx) := fun wx h => (HB0.out.later (KB1.out wx h)).load Tryz.underlying24 rfl size_u HLa.out
  clear B0
  refine wp_region_noPanic ?_
  refine wp_region_held_drew (S := Hd S1) (by kernel_rfl) (KD1.out _ hS1) (fun hHeld => ?_)
  clear hS1
  generalize World.drew _ = wd at *
  refine wpAnyH_take (i := 0) (v := .agg cs.toArray) rfl (by kernel_rfl) (by kernel_rfl) (by kernel_rfl) (fun _ _ _ h => h) (Or.inl ⟨by rfl, fun wx h => exec_load rfl rfl (r0.out wx h)⟩) (by assumption) ?_
  try simp only [Act.put, List.getElem_toArray, List.getElem_cons_zero, List.getElem_cons_succ, List.setIfInBounds_toArray, List.set_cons_zero, List.set_cons_succ]
  refine wpAnyH_take (i := 1) (v := ?_) rfl (by kernel_rfl) (by kernel_rfl) (by kernel_rfl) (fun _ _ _ h => h) (Or.inl ⟨by rfl, ?_⟩) (by assumption) ?_
  rotate_left
  · intro w hSw
    go_simp
    with_reducible rfl
  try simp only [Act.put, List.getElem_toArray, List.getElem_cons_zero, List.getElem_cons_succ, List.setIfInBounds_toArray, List.set_cons_zero, List.set_cons_succ]
  refine wpAnyH_ready (rs := [2]) (by kernel_rfl) (by simp) ?_
  refine AllReadyH.cons rfl (fun K hK => ?_) ?_
  · go_simp
    refine (uSame HU.out U6.zero).mono ?_
    rintro e z2 ⟨rfl, hb⟩
    refine hK.out _ _ ?_ (fun hHeld2 => ?_)
    · exact KL1.out _ _ hHeld hb
    · clear hK K hHeld
      have hHeld := hHeld2
      clear hHeld2
      try simp only [Act.put, List.getElem_toArray, List.getElem_cons_zero, List.getElem_cons_succ, List.setIfInBounds_toArray, List.set_cons_zero, List.set_cons_succ]
      clear hb
      by_cases c1 : x = 0
      · have HE : Hid (decide (isSc x) = false) := decide_eq_false (fun h => by have := h.1; omega)
        rw [if_pos c1]
        clear c1 hx
        refine wpAnyH_take (i := 3) (v := ?_) rfl (by kernel_rfl) (by kernel_rfl) (by kernel_rfl) (fun _ _ _ h => h) (Or.inl ⟨by rfl, ?_⟩) (by assumption) ?_
        rotate_left
        · intro w hSw
          go_simp
          with_reducible rfl
        try simp only [Act.put, List.getElem_toArray, List.getElem_cons_zero, List.getElem_cons_succ, List.setIfInBounds_toArray, List.set_cons_zero, List.set_cons_succ]
        refine wpAnyH_take (i := 4) (v := ?_) rfl (by kernel_rfl) (by kernel_rfl) (by kernel_rfl) (fun _ _ _ h => h) (Or.inl ⟨by rfl, ?_⟩) (by assumption) ?_
        rotate_left
        · intro w hSw
          go_simp
          with_reducible rfl
        try simp only [Act.put, List.getElem_toArray, List.getElem_cons_zero, List.getElem_cons_succ, List.setIfInBounds_toArray, List.set_cons_zero, List.set_cons_succ]
        refine wpAnyH_take (i := 5) (v := undef) rfl (by kernel_rfl) (by kernel_rfl) (by kernel_rfl) (fun _ _ _ h => h) (Or.inr ⟨by kernel_rfl, rfl⟩) (by assumption) ?_
        try simp only [Act.put, List.getElem_toArray, List.getElem_cons_zero, List.getElem_cons_succ, List.setIfInBounds_toArray, List.set_cons_zero, List.set_cons_succ]
        refine wpAnyH_ready (rs := [6]) (by kernel_rfl) (by simp) ?_
        refine AllReadyH.cons rfl (fun K hK => ?_) ?_
        · go_simp
          refine hK.out _ _ ?_ (fun hHeld2 => ?_)
          · exact hHeld
          · clear hK K hHeld
            have hHeld := hHeld2
            clear hHeld2
            try simp only [Act.put, List.getElem_toArray, List.getElem_cons_zero, List.getElem_cons_succ, List.setIfInBounds_toArray, List.set_cons_zero, List.set_cons_succ]
            refine wpAnyH_ready (rs := [7]) (by kernel_rfl) (by simp) ?_
            refine AllReadyH.cons rfl (fun K hK => ?_) ?_
            · go_simp
              refine hK.out _ _ ?_ (fun hHeld2 => ?_)
              · exact hHeld
              · clear hK K hHeld
                have hHeld := hHeld2
                clear hHeld2
                try simp only [Act.put, List.getElem_toArray, List.getElem_cons_zero, List.getElem_cons_succ, List.setIfInBounds_toArray, List.set_cons_zero, List.set_cons_succ]
                refine wpAnyH_take (i := 8) (v := undef) rfl (by kernel_rfl) (by kernel_rfl) (by kernel_rfl) (fun _ _ _ h => h) (Or.inr ⟨by kernel_rfl, rfl⟩) (by assumption) ?_
                try simp only [Act.put, List.getElem_toArray, List.getElem_cons_zero, List.getElem_cons_succ, List.setIfInBounds_toArray, List.set_cons_zero, List.set_cons_succ]
                refine wpAnyH_take (i := 9) (v := ?_) rfl (by kernel_rfl) (by kernel_rfl) (by kernel_rfl) (fun _ _ _ h => h) (Or.inl ⟨by rfl, ?_⟩) (by assumption) ?_
                rotate_left
                · intro w hSw
                  go_simp
                  with_reducible rfl
                try simp only [Act.put, List.getElem_toArray, List.getElem_cons_zero, List.getElem_cons_succ, List.setIfInBounds_toArray, List.set_cons_zero, List.set_cons_succ]
                refine wpAnyH_take (i := 10) (v := ?_) rfl (by kernel_rfl) (by kernel_rfl) (by kernel_rfl) (fun _ _ _ h => h) (Or.inl ⟨by rfl, ?_⟩) (by assumption) ?_
                rotate_left
                · intro w hSw
                  go_simp
                  with_reducible rfl
                try simp only [Act.put, List.getElem_toArray, List.getElem_cons_zero, List.getElem_cons_succ, List.setIfInBounds_toArray, List.set_cons_zero, List.set_cons_succ]
                refine wpAnyH_done (by kernel_rfl) ?_ _
                refine NoPanic.normal ?_
                have belz := below_step bel (KB1.out _ hHeld)
                clear r0 hHeld
                go_wp2_with fail
                go_ret
                exact ⟨by rw [HE.out]; rfl, belz⟩
            exact AllReadyH.nil
        exact AllReadyH.nil
      · rw [if_neg c1]
        refine wpAnyH_take (i := 3) (v := ?_) rfl (by kernel_rfl) (by kernel_rfl) (by kernel_rfl) (fun _ _ _ h => h) (Or.inl ⟨by rfl, ?_⟩) (by assumption) ?_
        rotate_left
        · intro w hSw
          go_simp
          with_reducible rfl
        try simp only [Act.put, List.getElem_toArray, List.getElem_cons_zero, List.getElem_cons_succ, List.setIfInBounds_toArray, List.set_cons_zero, List.set_cons_succ]
        refine wpAnyH_take (i := 4) (v := ?_) rfl (by kernel_rfl) (by kernel_rfl) (by kernel_rfl) (fun _ _ _ h => h) (Or.inl ⟨by rfl, ?_⟩) (by assumption) ?_
        rotate_left
        · intro w hSw
          go_simp
          with_reducible rfl
        try simp only [Act.put, List.getElem_toArray, List.getElem_cons_zero, List.getElem_cons_succ, List.setIfInBounds_toArray, List.set_cons_zero, List.set_cons_succ]
        refine wpAnyH_take (i := 5) (v := .agg cs.toArray) rfl (by kernel_rfl) (by kernel_rfl) (by kernel_rfl) (fun _ _ _ h => h) (Or.inl ⟨by rfl, fun wx h => exec_load rfl rfl (r0.out wx h)⟩) (by assumption) ?_
        try simp only [Act.put, List.getElem_toArray, List.getElem_cons_zero, List.getElem_cons_succ, List.setIfInBounds_toArray, List.set_cons_zero, List.set_cons_succ]
        refine wpAnyH_ready (rs := [6]) (by kernel_rfl) (by simp) ?_
        refine AllReadyH.cons rfl (fun K hK => ?_) ?_
        · go_simp
          refine (uN (HG.out.below (below_step bel (KB1.out _ hHeld)))).mono ?_
          rintro e z5 ⟨ns, rfl, hn, hb⟩
          refine hK.out _ _ ?_ (fun hHeld2 => ?_)
          · exact KL1.out _ _ hHeld hb
          · clear hK K hHeld
            have hHeld := hHeld2
            clear hHeld2
            try simp only [Act.put, List.getElem_toArray, List.getElem_cons_zero, List.getElem_cons_succ, List.setIfInBounds_toArray, List.set_cons_zero, List.set_cons_succ]
            have HNn : Hid (U6 ns QQ) := hn
            clear hn hb
            refine wpAnyH_ready (rs := [7]) (by kernel_rfl) (by simp) ?_
            refine AllReadyH.cons rfl (fun K hK => ?_) ?_
            · go_simp
              refine (uLess HU.out HNn.out).mono ?_
              rintro e z6 ⟨rfl, hb⟩
              refine hK.out _ _ ?_ (fun hHeld2 => ?_)
              · exact KL1.out _ _ hHeld hb
              · clear hK K hHeld
                have hHeld := hHeld2
                clear hHeld2
                try simp only [Act.put, List.getElem_toArray, List.getElem_cons_zero, List.getElem_cons_succ, List.setIfInBounds_toArray, List.set_cons_zero, List.set_cons_succ]
                clear hb
                by_cases c2 : x < QQ
                · have HE : Hid (decide (isSc x) = true) := decide_eq_true ⟨by omega, c2⟩
                  rw [if_pos c2]
                  clear c2
                  refine wpAnyH_take (i := 8) (v := ?_) rfl (by kernel_rfl) (by kernel_rfl) (by kernel_rfl) (fun _ _ _ h => h) (Or.inl ⟨by rfl, ?_⟩) (by assumption) ?_
                  rotate_left
                  · intro w hSw
                    go_simp
                    with_reducible rfl
                  try simp only [Act.put, List.getElem_toArray, List.getElem_cons_zero, List.getElem_cons_succ, List.setIfInBounds_toArray, List.set_cons_zero, List.set_cons_succ]
                  refine wpAnyH_take (i := 9) (v := ?_) rfl (by kernel_rfl) (by kernel_rfl) (by kernel_rfl) (fun _ _ _ h => h) (Or.inl ⟨by rfl, ?_⟩) (by assumption) ?_
                  rotate_left
                  · intro w hSw
                    go_simp
                    with_reducible rfl
                  try simp only [Act.put, List.getElem_toArray, List.getElem_cons_zero, List.getElem_cons_succ, List.setIfInBounds_toArray, List.set_cons_zero, List.set_cons_succ]
                  refine wpAnyH_take (i := 10) (v := ?_) rfl (by kernel_rfl) (by kernel_rfl) (by kernel_rfl) (fun _ _ _ h => h) (Or.inl ⟨by rfl, ?_⟩) (by assumption) ?_
                  rotate_left
                  · intro w hSw
                    go_simp
                    with_reducible rfl
                  try simp only [Act.put, List.getElem_toArray, List.getElem_cons_zero, List.getElem_cons_succ, List.setIfInBounds_toArray, List.set_cons_zero, List.set_cons_succ]
                  refine wpAnyH_done (by kernel_rfl) ?_ _
                  refine NoPanic.normal ?_
                  have belz := below_step bel (KB1.out _ hHeld)
                  clear r0 hHeld
                  go_wp2_with fail
                  go_ret
                  exact ⟨by rw [HE.out]; rfl, belz⟩
                · have HE : Hid (decide (isSc x) = false) := decide_eq_false (fun h => c2 h.2)
                  rw [if_neg c2]
                  clear c2
                  refine wpAnyH_take (i := 8) (v := ?_) rfl (by kernel_rfl) (by kernel_rfl) (by kernel_rfl) (fun _ _ _ h => h) (Or.inl ⟨by rfl, ?_⟩) (by assumption) ?_
                  rotate_left
                  · intro w hSw
                    go_simp
                    with_reducible rfl
                  try simp only [Act.put, List.getElem_toArray, List.getElem_cons_zero, List.getElem_cons_succ, List.setIfInBounds_toArray, List.set_cons_zero, List.set_cons_succ]
                  refine wpAnyH_take (i := 9) (v := ?_) rfl (by kernel_rfl) (by kernel_rfl) (by kernel_rfl) (fun _ _ _ h => h) (Or.inl ⟨by rfl, ?_⟩) (by assumption) ?_
                  rotate_left
                  · intro w hSw
                    go_simp
                    with_reducible rfl
                  try simp only [Act.put, List.getElem_toArray, List.getElem_cons_zero, List.getElem_cons_succ, List.setIfInBounds_toArray, List.set_cons_zero, List.set_cons_succ]
                  refine wpAnyH_take (i := 10) (v := ?_) rfl (by kernel_rfl) (by kernel_rfl) (by kernel_rfl) (fun _ _ _ h => h) (Or.inl ⟨by rfl, ?_⟩) (by assumption) ?_
                  rotate_left
                  · intro w hSw
                    go_simp
                    with_reducible rfl
                  try simp only [Act.put, List.getElem_toArray, List.getElem_cons_zero, List.getElem_cons_succ, List.setIfInBounds_toArray, List.set_cons_zero, List.set_cons_succ]
                  refine wpAnyH_done (by kernel_rfl) ?_ _
                  refine NoPanic.normal ?_
                  have belz := below_step bel (KB1.out _ hHeld)
                  clear r0 hHeld
                  go_wp2_with fail
                  go_ret
                  exact ⟨by rw [HE.out]; rfl, belz⟩
            exact AllReadyH.nil
        exact AllReadyH.nil
  exact AllReadyH.nil
set_option linter.unusedSimpArgs false in
set_option maxRecDepth 100000 in
set_option maxHeartbeats 1000000 in
theorem c14_both {rs ss : List Value} {r s : Int} {w : World} (G : GlsO w) (hr : U6 rs r) (hs : U6 ss s) :
    Calls Tryz.prog 37 #[.agg (rs ++ ss).toArray] w fun e w' => e = .returned (.bool (decide (isSc r ∧ isSc s))) ∧ Below w.heap.size w w' := by
  have hts : ∃ ts, rs ++ ss = ts := ⟨_, rfl⟩
  obtain ⟨ts, hts⟩ := hts
  have HT : Hid (rs ++ ss = ts) := hts
  have HLt : Hid (ts.length = 12) := by show _ = _; rw [← hts, List.length_append, hr.len, hs.len]
  have HR : Hid (U6 rs r) := hr
  have HS : Hid (U6 ss s) := hs
  rw [hts]
  clear hts hr hs
  have HG : Hid (GlsO w) := G
  clear G
  have S0 := Blk.new w ts 28 w.heap.size rfl
  have bel : Below w.heap.size w (w.alloc (.cells ts.toArray 28)) := (Below.refl _ _).alloc (Nat.le_refl _) _
  go_enter Tryz.func37, Tryz.ntmps37
  go_upto_region 1 with fail
  generalize w.alloc (.cells ts.toArray 28) = W at *
  have l0 := S0.lt
  go_wp2_with (first | (refine wpList_load_run (by rfl) (by rfl) (by rfl) (load_u S0 HR.out (by rw [← HT.out]; exact app_at0)) ?_) | fail)
  refine (c14_inRange (HG.out.below bel) HR.out).mono ?_
  rintro e w3 ⟨rfl, hb⟩
  replace S0 := S0.later hb
  replace bel := below_step bel hb
  clear hb
  clear l0
  have l0 := S0.lt
  by_cases c1 : isSc r
  rotate_left
  · rw [decide_eq_false c1]
    have HE : Hid (decide (isSc r ∧ isSc s) = false) := decide_eq_false (fun h => c1 h.1)
    clear c1
    go_wp2_with fail
    go_ret
    exact ⟨by rw [HE.out]; rfl, bel⟩
  rw [decide_eq_true c1]
  have HC1 : Hid (isSc r) := c1
  clear c1
  go_wp2_with (first | (refine wpList_load_run (by rfl) (by rfl) (by rfl) (load_u (o := 6) S0 HS.out (by rw [← HT.out]; exact app_at2 HR.out.len)) ?_) | fail)
  refine (c14_inRange (HG.out.below bel) HS.out).mono ?_
  rintro e w4 ⟨rfl, hb⟩
  replace S0 := S0.later hb
  replace bel := below_step bel hb
  clear hb
  clear l0
  by_cases c2 : isSc s
  · have HE : Hid (decide (isSc r ∧ isSc s) = true) := decide_eq_true ⟨HC1.out, c2⟩
    rw [decide_eq_true c2]
    clear c2
    go_wp2_with fail
    go_ret
    exact ⟨by rw [HE.out]; rfl, bel⟩
  · have HE : Hid (decide (isSc r ∧ isSc s) = false) := decide_eq_false (fun h => c2 h.2)
    rw [decide_eq_false c2]
    clear c2
    go_wp2_with fail
    go_ret
    exact ⟨by rw [HE.out]; rfl, bel⟩
theorem ne_codeC (c : Int) : ∀ w : World, (binOp .neq 30 (.iface 34 (.int .i64 c)) .nilIface).run Tryz.prog w = .ok (.bool true) w := fun _ => by kernel_rfl
theorem ne_nilC : ∀ w : World, (binOp .neq 30 .nilIface .nilIface).run Tryz.prog w = .ok (.bool false) w := fun _ => by kernel_rfl
theorem decBad_one {D : List Int} {c d : Int} (h : decBad D c) (k : decBad D d) : c = d := by
  rcases h with ⟨h1, h2⟩ | ⟨h1, h2⟩ <;> rcases k with ⟨k1, k2⟩ | ⟨k1, k2⟩ <;> omega
end Go.Proofs.YtjpnbbhpgchbpaaGreatDoor

namespace Go.Proofs.YtjpnbbhpgchbpaaGreatDoor
open Go.RowKit

set_option linter.unusedSimpArgs false in
set_option maxRecDepth 100000 in
set_option maxHeartbeats 1000000 in
theorem con_Sign0 {ks : List Value} {k : Int} {v : Value} {D : List Int} {w : World} (G : GA w) (hk : U6 ks k) (hv : Bs w v D) (_ : byt D) :
    Calls Tryz.prog 8 #[.agg #[.int .u64 0, .int .u64 0, .int .u64 0, .int .u64 0, .int .u64 0, .int .u64 0], .agg ks.toArray, v] w fun e w' => e = .returned (.tuple #[.agg #[.int .u64 0, .int .u64 0, .int .u64 0, .int .u64 0, .int .u64 0, .int .u64 0, .int .u64 0, .int .u64 0, .int .u64 0, .int .u64 0, .int .u64 0, .int .u64 0], .iface 34 (.int .i64 3)]) ∧ Below w.heap.size w w' := by
  obtain ⟨zs, hzs⟩ : ∃ zs : List Value, [.int .u64 0, .int .u64 0, .int .u64 0, .int .u64 0, .int .u64 0, .int .u64 0] = zs := ⟨_, rfl⟩
  have hza : #[.int .u64 0, .int .u64 0, .int .u64 0, .int .u64 0, .int .u64 0, .int .u64 0] = zs.toArray := by rw [← hzs]
  have HA : Hid (U6 zs 0) := by rw [← hzs]; exact U6.zero
  rw [hza]
  clear hza hzs
  have HG : Hid (GA w) := G
  have HK : Hid (U6 ks k) := hk
  have HLa : Hid (zs.length = 6) := HA.out.len
  obtain ⟨ao, cap, rfl, h1, h2, h3⟩ := hv
  clear G hk h1 h2 h3
  have D0 := ((Blk.new w zs 24 w.heap.size rfl).alloc (.cells ks.toArray 24)).alloc (.cells #[.int .u64 0, .int .u64 0, .int .u64 0, .int .u64 0, .int .u64 0, .int .u64 0, .int .u64 0, .int .u64 0, .int .u64 0, .int .u64 0, .int .u64 0, .int .u64 0] 28)
  have R0 := Blk.new ((w.alloc (.cells zs.toArray 24)).alloc (.cells ks.toArray 24)) [.int .u64 0, .int .u64 0, .int .u64 0, .int .u64 0, .int .u64 0, .int .u64 0, .int .u64 0, .int .u64 0, .int .u64 0, .int .u64 0, .int .u64 0, .int .u64 0] 28 (w.heap.size + 1 + 1) (by simp)
  have bel : Below w.heap.size w (((w.alloc (.cells zs.toArray 24)).alloc (.cells ks.toArray 24)).alloc (.cells #[.int .u64 0, .int .u64 0, .int .u64 0, .int .u64 0, .int .u64 0, .int .u64 0, .int .u64 0, .int .u64 0, .int .u64 0, .int .u64 0, .int .u64 0, .int .u64 0] 28)) := (((Below.refl _ _).alloc (Nat.le_refl _) _).alloc (by simp) _).alloc (by simp; omega) _
  have hz := zero_s.out
  go_enter Tryz.func8, Tryz.ntmps8
  go_upto_region 1 with fail
  generalize ((w.alloc (.cells zs.toArray 24)).alloc (.cells ks.toArray 24)).alloc (.cells #[.int .u64 0, .int .u64 0, .int .u64 0, .int .u64 0, .int .u64 0, .int .u64 0, .int .u64 0, .int .u64 0, .int .u64 0, .int .u64 0, .int .u64 0, .int .u64 0] 28) = W at *
  clear hz
  have l0 := D0.lt
  go_wp2_with (first | (refine wpList_load_run (by rfl) (by rfl) (by rfl) (D0.load Tryz.underlying24 rfl size_u HLa.out) ?_) | fail)
  refine (c14_inRange (HG.out.below bel).2 HA.out).mono ?_
  rintro e w3 ⟨rfl, hb⟩
  replace D0 := D0.later hb
  replace R0 := R0.later hb
  replace bel := below_step bel hb
  clear hb
  clear l0
  rw [decide_eq_false (show ¬ isSc 0 from fun h => by have := h.1; omega)]
  obtain ⟨tR, hR⟩ := R0
  have HR1 : Hid _ := hR
  clear hR
  have hz := zero_s.out
  go_wp2_with (first | (refine wpList_store_row rfl 28 _ _ rfl (w.heap.size + 1 + 1) #[.int .u64 0, .int .u64 0, .int .u64 0, .int .u64 0, .int .u64 0, .int .u64 0, .int .u64 0, .int .u64 0, .int .u64 0, .int .u64 0, .int .u64 0, .int .u64 0] rfl rfl tR _ HR1.out (by rw [size_s]; rfl) rfl (by simp [Value.oneCell']) ?_) | fail)
  refine bodyPost_ret (results_row_tmp rfl _ _ (w.heap.size + 1 + 1) tR #[.int .u64 0, .int .u64 0, .int .u64 0, .int .u64 0, .int .u64 0, .int .u64 0, .int .u64 0, .int .u64 0, .int .u64 0, .int .u64 0, .int .u64 0, .int .u64 0] (0, 0) _ rfl (setRow_heap _ _ _ _ _ _ HR1.out) Tryz.underlying28 rfl (by rw [size_s]; rfl)) rfl ?_
  exact ⟨rfl, below_setRow bel (by omega) _⟩
theorem g_raw0 : P13R [.int .u64 4203087948775033527, .int .u64 6125724927633205612, .int .u64 6482722621138151992, .int .u64 7934563412932533144, .int .u64 10282218360005504372, .int .u64 12288012358878168375, .int .u64 8809917716911230559, .int .u64 747793036959711645, .int .u64 16850834916486723776, .int .u64 17938995913990739068, .int .u64 6745997240412855337, .int .u64 3897828414440483951, .bool false] GX GY false := by
  refine ⟨[.int .u64 4203087948775033527, .int .u64 6125724927633205612, .int .u64 6482722621138151992, .int .u64 7934563412932533144, .int .u64 10282218360005504372, .int .u64 12288012358878168375, .int .u64 8809917716911230559, .int .u64 747793036959711645, .int .u64 16850834916486723776, .int .u64 17938995913990739068, .int .u64 6745997240412855337, .int .u64 3897828414440483951, .bool false].take 6, ([.int .u64 4203087948775033527, .int .u64 6125724927633205612, .int .u64 6482722621138151992, .int .u64 7934563412932533144, .int .u64 10282218360005504372, .int .u64 12288012358878168375, .int .u64 8809917716911230559, .int .u64 747793036959711645, .int .u64 16850834916486723776, .int .u64 17938995913990739068, .int .u64 6745997240412855337, .int .u64 3897828414440483951, .bool false].drop 6).take 6, rfl, ⟨_, _, _, _, _, _, rfl, fits6 (by decide), by decide +kernel⟩, ⟨_, _, _, _, _, _, rfl, fits6 (by decide), by decide +kernel⟩⟩
theorem on_Gaff0 : Aff GX GY := on_G
set_option linter.unusedSimpArgs false in
set_option maxRecDepth 100000 in
set_option maxHeartbeats 1000000 in
theorem con_Verify0 {v : Value} {D : List Int} {w : World} (G : GA w) (hv : Bs w v D) (b : byt D) (hl : D.length = 48) :
    Calls Tryz.prog 17 #[.agg #[.int .u64 4203087948775033527, .int .u64 6125724927633205612, .int .u64 6482722621138151992, .int .u64 7934563412932533144, .int .u64 10282218360005504372, .int .u64 12288012358878168375, .int .u64 8809917716911230559, .int .u64 747793036959711645, .int .u64 16850834916486723776, .int .u64 17938995913990739068, .int .u64 6745997240412855337, .int .u64 3897828414440483951, .bool false], v, .agg #[.int .u64 0, .int .u64 0, .int .u64 0, .int .u64 0, .int .u64 0, .int .u64 0, .int .u64 0, .int .u64 0, .int .u64 0, .int .u64 0, .int .u64 0, .int .u64 0]] w fun e w' => e = .returned (.iface 34 (.int .i64 3)) ∧ Below w.heap.size w w' := by
  obtain ⟨qs, hqs⟩ : ∃ qs : List Value, [.int .u64 4203087948775033527, .int .u64 6125724927633205612, .int .u64 6482722621138151992, .int .u64 7934563412932533144, .int .u64 10282218360005504372, .int .u64 12288012358878168375, .int .u64 8809917716911230559, .int .u64 747793036959711645, .int .u64 16850834916486723776, .int .u64 17938995913990739068, .int .u64 6745997240412855337, .int .u64 3897828414440483951, .bool false] = qs := ⟨_, rfl⟩
  have HQ : Hid (P13R qs GX GY false) := by rw [← hqs]; exact g_raw0
  have hqa : #[.int .u64 4203087948775033527, .int .u64 6125724927633205612, .int .u64 6482722621138151992, .int .u64 7934563412932533144, .int .u64 10282218360005504372, .int .u64 12288012358878168375, .int .u64 8809917716911230559, .int .u64 747793036959711645, .int .u64 16850834916486723776, .int .u64 17938995913990739068, .int .u64 6745997240412855337, .int .u64 3897828414440483951, .bool false] = qs.toArray := by rw [← hqs]
  obtain ⟨ts, hts⟩ : ∃ ts : List Value, [.int .u64 0, .int .u64 0, .int .u64 0, .int .u64 0, .int .u64 0, .int .u64 0, .int .u64 0, .int .u64 0, .int .u64 0, .int .u64 0, .int .u64 0, .int .u64 0] = ts := ⟨_, rfl⟩
  have HT : Hid ([.int .u64 0, .int .u64 0, .int .u64 0, .int .u64 0, .int .u64 0, .int .u64 0] ++ [.int .u64 0, .int .u64 0, .int .u64 0, .int .u64 0, .int .u64 0, .int .u64 0] = ts) := hts
  have hta : #[.int .u64 0, .int .u64 0, .int .u64 0, .int .u64 0, .int .u64 0, .int .u64 0, .int .u64 0, .int .u64 0, .int .u64 0, .int .u64 0, .int .u64 0, .int .u64 0] = ts.toArray := by rw [← hts]
  rw [hqa, hta]
  clear hqa hqs hta hts
  have HG : Hid (GA w) := G
  have HLq : Hid (qs.length = 13) := HQ.out.len
  have HLt : Hid (ts.length = 12) := by show _ = _; rw [← HT.out]; rfl
  have HB : Hid (byt D) := b
  have HC3 : Hid (D.length = 48) := hl
  have HV : Hid (Bs w v D) := hv
  obtain ⟨ao, cap, rfl, h1, h2, h3⟩ := hv
  clear G b h1 h2 h3 hl
  have HNn : Hid (qs[12]? = some (.bool false)) := by
    obtain ⟨xs, ys, e, u1, u2⟩ := HQ.out
    show _ = _
    rw [e, List.getElem?_append_right (by simp [u1.len, u2.len])]
    simp [u1.len, u2.len]
  have Q0 := (Blk.new w qs 39 w.heap.size rfl).alloc (.cells ts.toArray 28)
  have S0 := Blk.new (w.alloc (.cells qs.toArray 39)) ts 28 (w.heap.size + 1) (by simp)
  have bel : Below w.heap.size w ((w.alloc (.cells qs.toArray 39)).alloc (.cells ts.toArray 28)) := ((Below.refl _ _).alloc (Nat.le_refl _) _).alloc (by simp) _
  go_enter Tryz.func17, Tryz.ntmps17
  go_upto_region 1 with fail
  generalize (w.alloc (.cells qs.toArray 39)).alloc (.cells ts.toArray 28) = W at *
  have l0 := Q0.lt
  have cn := Q0.cell 12 _ HNn.out
  go_wp2_with (first | (refine wpList_load_run (by rfl) (by rfl) (by rfl) (Q0.load Tryz.underlying39 rfl size_p HLq.out) ?_) | fail)
  refine (uOn (HG.out.below bel).1 HQ.out).mono ?_
  rintro e w3 ⟨ob, rfl, hob, hb⟩
  clear l0 cn
  replace Q0 := Q0.later hb
  replace S0 := S0.later hb
  replace bel := below_step bel hb
  clear hb
  obtain rfl : ob = true := hob.2 (.inr ⟨rfl, on_Gaff0⟩)
  clear hob
  go_wp2_with fail
  refine (uDigest (HG.out.below bel).2 (HV.out.later bel) HB.out HC3.out).mono ?_
  rintro e w5 ⟨hs5, rfl, hu, hb⟩
  replace Q0 := Q0.later hb
  replace S0 := S0.later hb
  replace bel := below_step bel hb
  clear hb
  have HH : Hid (U6 hs5 (beN D % QQ)) := hu
  clear hu
  have HLh : Hid (hs5.length = 6) := HH.out.len
  have HSh : Hid (hs5.toArray.size = 6) := by show _ = _; rw [List.size_toArray]; exact HLh.out
  have HOh : Hid (OneR hs5) := HH.out.ones
  replace Q0 := Q0.alloc (.cells hs5.toArray 24)
  replace S0 := S0.alloc (.cells hs5.toArray 24)
  replace bel := below_alloc (o := .cells hs5.toArray 24) bel
  have Bh := Blk.new w5 hs5 24 w5.heap.size rfl
  have hz := zero_u.out
  go_upto_region 4 with (first | (refine wpList_store_row rfl 24 _ _ rfl w5.heap.size hs5.toArray rfl rfl 24 _ (heap_alloc_last _ _) (by rw [size_u, HSh.out]) (by rw [HSh.out]; rfl) HOh.out ?_; rw [World.setRow_alloc_new]) | fail)
  clear hz
  obtain ⟨gh, hgh⟩ : ∃ g, g = w5.heap.size := ⟨_, rfl⟩
  rw [← hgh] at Bh
  generalize w5.alloc (.cells hs5.toArray 24) = Vh at *
  rw [← hgh]
  clear hgh
  have q3 := ne_nilC
  have l0 := S0.lt
  go_wp2_with (first | (refine wpList_load_run (by rfl) (by rfl) (by rfl) (S0.load Tryz.underlying28 rfl size_s HLt.out) ?_) | fail)
  refine (by rw [← HT.out]; exact c14_both (HG.out.below bel).2 U6.zero U6.zero : Calls Tryz.prog 37 #[.agg ts.toArray] _ _).mono ?_
  rintro e w6 ⟨rfl, hb⟩
  replace bel := below_step bel hb
  rw [decide_eq_false (show ¬ (isSc 0 ∧ isSc 0) from fun h => by have := h.1.1; omega)]
  clear l0 hb q3
  go_wp2_with fail
  go_ret
  exact ⟨rfl, bel⟩
end Go.Proofs.YtjpnbbhpgchbpaaGreatDoor
