/- The document's Same of elements. -/
import Derived.Test.YtineihnipidmfaaRows
import Derived.Test.YtineihnipidmfaaDrTG
import Derived.Test.YtineihnipidmfaaStrEq
import Derived.Test.YtineihnipidmfaaSConv
import Derived.Test.YtineihnipidmfaaShape
import Derived.Deep.WholeRow
import Derived.Deep.RegionHeld3
import Derived.Deep.DeepCutAuto
import Derived.Deep.DeepFit
namespace Go.Proofs.Ytineihnipidmfaa
open Go.RowKit

/-- are two elements alike? -/
noncomputable def sameT (a b : Tl) : Bool := @decide (a = b) (Classical.propDecidable _)
theorem sameT_yes {a b : Tl} (h : a = b) : sameT a b = true := @decide_eq_true _ (Classical.propDecidable _) h
theorem sameT_no {a b : Tl} (h : ¬ a = b) : sameT a b = false := @decide_eq_false _ (Classical.propDecidable _) h
theorem list_same {xs ys : List Tl} (l : xs.length = ys.length) (h : ∀ (i : Nat) (a b : Tl), xs[i]? = some a → ys[i]? = some b → a = b) : xs = ys := by
  apply List.ext_getElem?
  intro i
  by_cases hi : i < xs.length
  · rw [List.getElem?_eq_getElem hi, List.getElem?_eq_getElem (by omega)]
    exact congrArg some (h i _ _ (List.getElem?_eq_getElem hi) (List.getElem?_eq_getElem (by omega)))
  · rw [List.getElem?_eq_none (by omega), List.getElem?_eq_none (by omega)]

set_option linter.unusedSimpArgs false in
set_option maxRecDepth 100000 in
set_option maxHeartbeats 4000000 in
theorem r12_Same (n : Nat) : ∀ (T U : Tl) (w : World) (cs ds : List Value), szT T ≤ n → WfT T → WfT U → TlAt w T cs → TlAt w U ds →
    Calls Try.prog 11 #[.agg cs.toArray, .agg ds.toArray] w fun e w' => e = .returned (.bool (sameT T U)) ∧ Below w.heap.size w w' := by
  induction n with
  | zero => intro T U w cs ds hz; have := szT_pos T; omega
  | succ n IH =>
    intro T U w cs ds hz wT wU h k
    obtain ⟨c, t, m, b, ks⟩ := T
    obtain ⟨c', t', m', b', ls⟩ := U
    rw [TlAt] at h k
    rw [WfT] at wT wU
    have HWb : Hid (byt b ∧ byt b') := ⟨wT.2.2.1, wU.2.2.1⟩
    have HWk : Hid (WfL ks ∧ WfL ls) := ⟨wT.2.2.2, wU.2.2.2⟩
    clear wT wU
    obtain ⟨bv, ao, cap, rfl, hbv, hk1, hk2, hk3⟩ := h
    obtain ⟨bv', ao', cap', rfl, hbv', hl1, hl2, hl3⟩ := k
    have HK : Hid (0 < ks.length → ∃ g o, ao = some ⟨g, o, none⟩ ∧ KidsAt w ks g o) := hk3
    have HL : Hid (0 < ls.length → ∃ g o, ao' = some ⟨g, o, none⟩ ∧ KidsAt w ls g o) := hl3
    clear hk3 hl3
    unfold maxLen at hk2 hl2
    rw [szT] at hz
    have B0 := (Blk.new w [.int .i64 c, .int .i64 t, .bool m, bv, .slice ao ks.length cap] 28 w.heap.size rfl).alloc (.cells #[.int .i64 c', .int .i64 t', .bool m', bv', .slice ao' ls.length cap'] 28)
    have B1 := Blk.new (w.alloc (.cells #[.int .i64 c, .int .i64 t, .bool m, bv, .slice ao ks.length cap] 28)) [.int .i64 c', .int .i64 t', .bool m', bv', .slice ao' ls.length cap'] 28 (w.heap.size + 1) (by simp)
    have bel : Below w.heap.size w ((w.alloc (.cells #[.int .i64 c, .int .i64 t, .bool m, bv, .slice ao ks.length cap] 28)).alloc (.cells #[.int .i64 c', .int .i64 t', .bool m', bv', .slice ao' ls.length cap'] 28)) := (((Below.refl _ _).alloc (Nat.le_refl _) _).alloc (by simp) _)
    have x1 := conv_any (hbv.later bel)
    have x2 := conv_any (hbv'.later bel)
    go_enter Try.func11, Try.ntmps11
    go_upto_region 1 with fail
    generalize (w.alloc (Obj.cells #[.int .i64 c, .int .i64 t, .bool m, bv, .slice ao ks.length cap] 28)).alloc (Obj.cells #[.int .i64 c', .int .i64 t', .bool m', bv', .slice ao' ls.length cap'] 28) = W at *
    have e0 := B0.cell 0 _ rfl
    have f0 := B1.cell 0 _ rfl
    have e1 := B0.cell 1 _ rfl
    have f1 := B1.cell 1 _ rfl
    have e2 := B0.cell 2 _ rfl
    have f2 := B1.cell 2 _ rfl
    have e3 := B0.cell 3 _ rfl
    have f3 := B1.cell 3 _ rfl
    have e4 := B0.cell 4 _ rfl
    have f4 := B1.cell 4 _ rfl
    have lt0 := B0.lt
    have lt1 := B1.lt
    by_cases q1 : c = c'
    rotate_left
    · go_wp2_with fail
      go_ret
      exact ⟨by rw [sameT_no (by intro h; simp only [Tl.mk.injEq] at h; exact q1 h.1)]; rfl, bel⟩
    by_cases q2 : t = t'
    rotate_left
    · subst q1
      go_wp2_with fail
      go_ret
      exact ⟨by rw [sameT_no (by intro h; simp only [Tl.mk.injEq] at h; exact q2 h.2.1)]; rfl, bel⟩
    by_cases q3 : m = m'
    rotate_left
    · subst q1 q2
      have HQ : Hid (¬ m = m') := q3
      cases m <;> cases m' <;> first | exact absurd rfl HQ.out | (go_wp2_with fail; go_ret; exact ⟨by rw [sameT_no (by intro h; simp only [Tl.mk.injEq] at h; exact HQ.out h.2.2.1)]; rfl, bel⟩)
    by_cases q4 : b = b'
    rotate_left
    · subst q1 q2 q3
      have HQ : Hid (¬ b = b') := q4
      have sq : ((strOfNums b).toList == (strOfNums b').toList) = false := by rw [str_eqS HWb.out.1 HWb.out.2, decide_eq_false q4]
      clear q4
      go_wp2_with fail
      go_ret
      exact ⟨by rw [sameT_no (by intro h; simp only [Tl.mk.injEq] at h; exact HQ.out h.2.2.2.1)]; rfl, bel⟩
    by_cases q5 : ks.length = ls.length
    rotate_left
    · subst q1 q2 q3 q4
      have HQ : Hid (¬ ks.length = ls.length) := q5
      have q5i : ¬ (ks.length : Int) = (ls.length : Int) := by omega
      go_wp2_with fail
      go_ret
      exact ⟨by rw [sameT_no (by intro h; simp only [Tl.mk.injEq] at h; exact HQ.out (by rw [h.2.2.2.2]))]; rfl, bel⟩
    subst q1 q2 q3 q4
    have HLn : Hid (ks.length = ls.length) := q5
    obtain ⟨N, hN⟩ : ∃ N, ks.length = N := ⟨_, rfl⟩
    rw [hN] at hk1 B0 e4 HK q5 ⊢
    rw [← q5] at hl1 B1 f4 HL ⊢
    have HNk : Hid (ks.length = N) := hN
    have HNl : Hid (ls.length = N) := q5.symm
    clear q5 hN
    go_wp2_with fail
    clear x1 x2 hbv hbv'
    go_loopw [5] (fun iv wx => ∃ i : Nat, i ≤ N ∧ iv = .int .i64 i ∧ Hid (∀ j, j < i → ∀ a b, ks[j]? = some a → ls[j]? = some b → a = b) ∧ Blk wx w.heap.size [.int .i64 c, .int .i64 t, .bool m, bv, .slice ao N cap] ∧ Blk wx (w.heap.size + 1) [.int .i64 c, .int .i64 t, .bool m, bv', .slice ao' N cap'] ∧ Below w.heap.size w wx) (fun iv _ => N - (intOf iv).toNat)
    case atStart => exact ⟨0, by omega, rfl, fun j hj => absurd hj (by omega), B0, B1, bel⟩
    case round =>
      clear B0 B1 bel lt0 lt1 e0 e1 e2 e3 e4 f0 f1 f2 f3 f4
      obtain ⟨i, hi, rfl, HS, B0, B1, bel⟩ := hrel
      have e4 := B0.cell 4 _ rfl
      have lt0 := B0.lt
      by_cases hil : i < N
      · have g1 : (i : Int) < (N : Int) := by omega
        have g2 : (0 : Int) ≤ (i : Int) := by omega
        have gi : IntKind.i64.wrap ((i : Int) + 1) = (i : Int) + 1 := by rw [IntKind.wrap_i64]; omega
        obtain ⟨k, hkk⟩ := get_kid (ks := ks) (i := i) (by rw [HNk.out]; exact hil)
        obtain ⟨l, hll⟩ := get_kid (ks := ls) (i := i) (by rw [HNl.out]; exact hil)
        obtain ⟨g, o, hao, hks⟩ := HK.out (by omega)
        obtain ⟨g', o', hao', hls⟩ := HL.out (by omega)
        obtain ⟨cs, hcs, hkt⟩ := hks.get hkk
        obtain ⟨ds, hds, hlt⟩ := hls.get hll
        have hsz := szL_get hkk
        have HWk2 := HWk.out.1.get hkk
        have HWl2 := HWk.out.2.get hll
        have HKK : Hid (ks[i]? = some k) := hkk
        have HLL : Hid (ls[i]? = some l) := hll
        clear hkk hll
        subst hao hao'
        have H5k := hkt.five
        have H5l := hlt.five
        replace hcs := hcs.later bel
        replace hds := hds.later bel
        replace hkt := hkt.later bel
        replace hlt := hlt.later bel
        have hN1 := bel.size
        go_upto_region 6 with fail
        obtain ⟨S1, hS1, KL1, KA1, KD1, KS1, KQ1, KN1, KB1, KM1, KR1⟩ := held3 (w0 := w) (W := wr) [(w.heap.size, [.int .i64 c, .int .i64 t, .bool m, bv, .slice (some ⟨g, o, none⟩) N cap]), (w.heap.size + 1, [.int .i64 c, .int .i64 t, .bool m, bv', .slice (some ⟨g', o', none⟩) N cap'])] (by
          intro b X h
          simp only [List.mem_cons, List.not_mem_nil, or_false, Prod.mk.injEq] at h
          rcases h with ⟨rfl, rfl⟩ | ⟨rfl, rfl⟩
          · exact B0
          · exact B1) bel
        have ra : ∀ wx, Hd S1 wx → wx.cell? ⟨w.heap.size, 4, none⟩ = some (.slice (some ⟨g, o, none⟩) N cap) := fun wx h => (KM1.out wx _ _ h (List.Mem.head _)).cell 4 _ rfl
        have rb : ∀ wx, Hd S1 wx → wx.cell? ⟨w.heap.size + 1, 4, none⟩ = some (.slice (some ⟨g', o', none⟩) N cap') := fun wx h => (KM1.out wx _ _ h (List.Mem.tail _ (List.Mem.head _))).cell 4 _ rfl
        have HB0 : Hid (Below w.heap.size w wr) := bel
        clear KS1 KA1 KN1 KQ1 KR1 B0 B1 bel e4 lt0
        obtain ⟨S2, hS2, KS2, KB2, KD2, KL2⟩ : ∃ S : World → Prop, Hd S wr ∧ Hid (∀ wx, Hd S wx → Hd S1 wx) ∧ Hid (∀ wx, Hd S wx → Below wr.heap.size wr wx) ∧ Hid (∀ wx, Hd S wx → Hd S wx.drew) ∧ Hid (∀ w1 w2, Hd S w1 → Below w1.heap.size w1 w2 → Hd S w2) := ⟨fun wx => Hd S1 wx ∧ Below wr.heap.size wr wx, ⟨hS1, Below.refl _ _⟩, fun _ h => h.1, fun _ h => h.2, fun wx h => ⟨KD1.out wx h.1, h.2.drew⟩, fun w1 w2 h hb => ⟨KL1.out w1 w2 h.1 hb, below_stepD h.2 hb⟩⟩
        replace ra : ∀ wx, Hd S2 wx → wx.cell? ⟨w.heap.size, 4, none⟩ = some (.slice (some ⟨g, o, none⟩) N cap) := fun wx h => ra wx (KS2.out wx h)
        replace rb : ∀ wx, Hd S2 wx → wx.cell? ⟨w.heap.size + 1, 4, none⟩ = some (.slice (some ⟨g', o', none⟩) N cap') := fun wx h => rb wx (KS2.out wx h)
        have rk : Hid (∀ wx, Hd S2 wx → (loadVar 28 ⟨g, o + i * 5, none⟩).run Try.prog wx = .ok (.agg cs.toArray) wx) := fun wx h => tlv_load (by rw [Nat.mul_comm]; exact hcs.later (KB2.out wx h)) H5k
        have rl : Hid (∀ wx, Hd S2 wx → (loadVar 28 ⟨g', o' + i * 5, none⟩).run Try.prog wx = .ok (.agg ds.toArray) wx) := fun wx h => tlv_load (by rw [Nat.mul_comm]; exact hds.later (KB2.out wx h)) H5l
        refine wp_region_noPanic ?_
        refine wp_region_held_drew (S := Hd S2) (by kernel_rfl) (KD2.out _ hS2) (fun hHeld => ?_)
        clear hS1 hS2
        generalize World.drew _ = wd at *
        refine wpAnyH_take (i := 0) (v := ?_) rfl (by kernel_rfl) (by kernel_rfl) (by kernel_rfl) (fun _ _ _ h => h) (Or.inl ⟨by rfl, ?_⟩) (by assumption) ?_
        rotate_left
        · intro w hSw
          go_simp
          with_reducible rfl
        try simp only [Act.put, List.getElem_toArray, List.getElem_cons_zero, List.getElem_cons_succ, List.setIfInBounds_toArray, List.set_cons_zero, List.set_cons_succ]
        refine wpAnyH_take (i := 1) (v := ?_) rfl (by kernel_rfl) (by kernel_rfl) (by kernel_rfl) (fun _ _ _ h => h) (Or.inl ⟨by rfl, ?_⟩) (by assumption) ?_
        rotate_left
        · intro w hSw
          go_simp
          with_reducible rfl
        try simp only [Act.put, List.getElem_toArray, List.getElem_cons_zero, List.getElem_cons_succ, List.setIfInBounds_toArray, List.set_cons_zero, List.set_cons_succ]
        refine wpAnyH_take (i := 2) (v := ?_) rfl (by kernel_rfl) (by kernel_rfl) (by kernel_rfl) (fun _ _ _ h => h) (Or.inl ⟨by rfl, ?_⟩) (by assumption) ?_
        rotate_left
        · intro w hSw
          go_simp
          with_reducible rfl
        try simp only [Act.put, List.getElem_toArray, List.getElem_cons_zero, List.getElem_cons_succ, List.setIfInBounds_toArray, List.set_cons_zero, List.set_cons_succ]
        refine wpAnyH_take (i := 3) (v := ?_) rfl (by kernel_rfl) (by kernel_rfl) (by kernel_rfl) (fun _ _ _ h => h) (Or.inl ⟨by rfl, ?_⟩) (by assumption) ?_
        rotate_left
        · intro w hSw
          go_simp
          with_reducible rfl
        try simp only [Act.put, List.getElem_toArray, List.getElem_cons_zero, List.getElem_cons_succ, List.setIfInBounds_toArray, List.set_cons_zero, List.set_cons_succ]
        refine wpAnyH_take (i := 4) (v := .agg cs.toArray) rfl (by kernel_rfl) (by kernel_rfl) (by kernel_rfl) (fun _ _ _ h => h) (Or.inl ⟨by rfl, fun wx h => exec_load rfl rfl (rk.out wx h)⟩) (by assumption) ?_
        try simp only [Act.put, List.getElem_toArray, List.getElem_cons_zero, List.getElem_cons_succ, List.setIfInBounds_toArray, List.set_cons_zero, List.set_cons_succ]
        refine wpAnyH_take (i := 5) (v := ?_) rfl (by kernel_rfl) (by kernel_rfl) (by kernel_rfl) (fun _ _ _ h => h) (Or.inl ⟨by rfl, ?_⟩) (by assumption) ?_
        rotate_left
        · intro w hSw
          go_simp
          with_reducible rfl
        try simp only [Act.put, List.getElem_toArray, List.getElem_cons_zero, List.getElem_cons_succ, List.setIfInBounds_toArray, List.set_cons_zero, List.set_cons_succ]
        refine wpAnyH_take (i := 6) (v := ?_) rfl (by kernel_rfl) (by kernel_rfl) (by kernel_rfl) (fun _ _ _ h => h) (Or.inl ⟨by rfl, ?_⟩) (by assumption) ?_
        rotate_left
        · intro w hSw
          go_simp
          with_reducible rfl
        try simp only [Act.put, List.getElem_toArray, List.getElem_cons_zero, List.getElem_cons_succ, List.setIfInBounds_toArray, List.set_cons_zero, List.set_cons_succ]
        refine wpAnyH_take (i := 7) (v := ?_) rfl (by kernel_rfl) (by kernel_rfl) (by kernel_rfl) (fun _ _ _ h => h) (Or.inl ⟨by rfl, ?_⟩) (by assumption) ?_
        rotate_left
        · intro w hSw
          go_simp
          with_reducible rfl
        try simp only [Act.put, List.getElem_toArray, List.getElem_cons_zero, List.getElem_cons_succ, List.setIfInBounds_toArray, List.set_cons_zero, List.set_cons_succ]
        refine wpAnyH_take (i := 8) (v := ?_) rfl (by kernel_rfl) (by kernel_rfl) (by kernel_rfl) (fun _ _ _ h => h) (Or.inl ⟨by rfl, ?_⟩) (by assumption) ?_
        rotate_left
        · intro w hSw
          go_simp
          with_reducible rfl
        try simp only [Act.put, List.getElem_toArray, List.getElem_cons_zero, List.getElem_cons_succ, List.setIfInBounds_toArray, List.set_cons_zero, List.set_cons_succ]
        refine wpAnyH_take (i := 9) (v := .agg ds.toArray) rfl (by kernel_rfl) (by kernel_rfl) (by kernel_rfl) (fun _ _ _ h => h) (Or.inl ⟨by rfl, fun wx h => exec_load rfl rfl (rl.out wx h)⟩) (by assumption) ?_
        try simp only [Act.put, List.getElem_toArray, List.getElem_cons_zero, List.getElem_cons_succ, List.setIfInBounds_toArray, List.set_cons_zero, List.set_cons_succ]
        refine wpAnyH_ready (rs := [10]) (by kernel_rfl) (by simp) ?_
        refine AllReadyH.cons rfl (fun K hK => ?_) ?_
        · go_simp
          have hHb := KB2.out _ hHeld
          refine (IH k l _ _ _ (by omega) HWk2 HWl2 (hkt.later hHb) (hlt.later hHb)).mono ?_
          rintro e w2 ⟨rfl, hb⟩
          refine hK.out _ _ ?_ (fun hHeld2 => ?_)
          · exact KL2.out _ _ hHeld hb
          · clear hK K hHeld
            have hHeld := hHeld2
            clear hHeld2
            try simp only [Act.put, List.getElem_toArray, List.getElem_cons_zero, List.getElem_cons_succ, List.setIfInBounds_toArray, List.set_cons_zero, List.set_cons_succ]
            clear hb
            refine wpAnyH_ready (rs := [11]) (by kernel_rfl) (by simp) ?_
            refine AllReadyH.cons rfl (fun K hK => ?_) ?_
            · go_simp
              refine hK.out _ _ ?_ (fun hHeld2 => ?_)
              · exact hHeld
              · clear hK K hHeld
                have hHeld := hHeld2
                clear hHeld2
                try simp only [Act.put, List.getElem_toArray, List.getElem_cons_zero, List.getElem_cons_succ, List.setIfInBounds_toArray, List.set_cons_zero, List.set_cons_succ]
                refine wpAnyH_done (by kernel_rfl) ?_ _
                refine NoPanic.normal ?_
                have B0 := KM1.out _ _ _ (KS2.out _ hHeld) (List.Mem.head _)
                have B1 := KM1.out _ _ _ (KS2.out _ hHeld) (List.Mem.tail _ (List.Mem.head _))
                have bel := KB1.out _ (KS2.out _ hHeld)
                clear hHeld ra rb rk rl
                by_cases hkl : k = l
                · rw [sameT_yes hkl]
                  have HSn : Hid (∀ j, j < i + 1 → ∀ a b, ks[j]? = some a → ls[j]? = some b → a = b) := fun j hj a b ha hb => by
                    by_cases e : j < i
                    · exact HS.out j e a b ha hb
                    · obtain rfl : j = i := by omega
                      have ea := HKK.out
                      have eb := HLL.out
                      rw [ea] at ha
                      rw [eb] at hb
                      simp only [Option.some.injEq] at ha hb
                      rw [← ha, ← hb, hkl]
                  clear hkl
                  go_wp2_with fail
                  go_roundw
                  case rel => exact ⟨i + 1, by omega, by go_num, HSn, B0, B1, bel⟩
                  case measure => simp [intOf]; omega
                · rw [sameT_no hkl]
                  have HQ : Hid (¬ k = l) := hkl
                  clear hkl
                  go_wp2_with fail
                  go_ret
                  exact ⟨by rw [sameT_no (by intro h; simp only [Tl.mk.injEq] at h; have e1 := HKK.out; rw [h.2.2.2.2, HLL.out] at e1; exact HQ.out (by simpa using e1.symm))]; rfl, bel⟩
            exact AllReadyH.nil
        exact AllReadyH.nil
      · have HI : Hid (i = N) := by show i = N; omega
        have g1 : ¬ (i : Int) < (N : Int) := by omega
        go_wp2_with fail
        go_ret
        exact ⟨by rw [sameT_yes (by rw [show ks = ls from list_same HLn.out (fun j a b ha hb => HS.out j (by rw [HI.out, ← HNk.out]; exact (List.getElem?_eq_some_iff.1 ha).1) a b ha hb)])]; rfl, bel⟩
end Go.Proofs.Ytineihnipidmfaa
