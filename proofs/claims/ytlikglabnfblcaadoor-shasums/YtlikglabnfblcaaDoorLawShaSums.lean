/- The law ShaSums answers true: the digest of any bytes; they stay. -/
import Derived.Test.YtlikglabnfblcaaDoorRows
import Derived.Test.YtlikglabnfblcaaDoorSLaw
import Derived.Deep.WholeRow
import Derived.Deep.RegionHeld3
import Derived.Deep.DeepCutAuto
import Derived.Deep.DeepFit
namespace Go.Proofs.YtlikglabnfblcaaDoor
open Go.RowKit

theorem conv_any {w : World} {v : Value} {bs : List Int} (h : Bs w v bs) : (convert 24 9 v).run Tryd.prog w = .ok (.string (strOfNums bs)) w := by
  by_cases h0 : 0 < bs.length
  · obtain ⟨b, o, cap, rfl, _, _⟩ := h.form h0
    exact conv_s h h0
  · obtain rfl : bs = [] := List.eq_nil_of_length_eq_zero (by omega)
    obtain ⟨ao, cap, rfl, _, _, _⟩ := h
    cases ao <;> kernel_rfl
theorem bs_take {w : World} {b o n cap : Nat} {B : List Int} (h : Bs w (.slice (some ⟨b, o, none⟩) n cap) B) (hn : 20000 < n) : Bs w (.slice (some ⟨b, o, none⟩) 20000 cap) (B.take 20000) := by
  obtain ⟨ao, c, e, h1, h2, h3⟩ := h
  simp only [Value.slice.injEq] at e
  obtain ⟨rfl, rfl, rfl⟩ := e
  have l : (B.take 20000).length = 20000 := by rw [List.length_take]; omega
  obtain ⟨b', o', e', h5, h6⟩ := h3 (by omega)
  simp only [Option.some.injEq, Addr.mk.injEq] at e'
  obtain ⟨rfl, rfl, -⟩ := e'
  refine ⟨_, cap, by rw [l], h1, by omega, fun _ => ⟨b, o, rfl, h5, fun j hj => ?_⟩⟩
  rw [l] at hj
  rw [h6 j (by omega), List.getD_eq_getElem?_getD, List.getD_eq_getElem?_getD, List.getElem?_take, if_pos hj]
theorem byt_take {B : List Int} (h : byt B) (n : Nat) : byt (B.take n) := by
  intro j
  rw [List.getD_eq_getElem?_getD, List.getElem?_take]
  split
  · rw [← List.getD_eq_getElem?_getD]; exact h j
  · exact ⟨by simp, by simp⟩

theorem bs_cells {w : World} {b o n cap : Nat} {D : List Int} (h : Bs w (.slice (some ⟨b, o, none⟩) n cap) D) (h0 : 0 < n) : b < w.heap.size ∧ ∀ j, j < D.length → w.cell? ⟨b, o + j, none⟩ = some (.int .u8 (D.getD j 0)) := by
  obtain ⟨ao, c, e, h1, h2, h3⟩ := h
  simp only [Value.slice.injEq] at e
  obtain ⟨rfl, rfl, rfl⟩ := e
  obtain ⟨b', o', e', h5, h6⟩ := h3 h0
  simp only [Option.some.injEq, Addr.mk.injEq] at e'
  obtain ⟨rfl, rfl, -⟩ := e'
  exact ⟨h5, h6⟩
theorem SumIs.len {K H B O : List Int} (h : SumIs K H B O) : O.length = 48 := by
  obtain ⟨P, _, h⟩ := h
  exact h.len

set_option linter.unusedSimpArgs false in
set_option maxRecDepth 100000 in
set_option maxHeartbeats 2000000 in
theorem sums_long {v : Value} {B : List Int} {w : World} (G : GlsS w) (hv : Bs w v B) (hB : byt B) (hl : 20000 < B.length) :
    Calls Tryd.prog 4 #[v] w fun e w' => e = .returned (.bool true) ∧ Below w.heap.size w w' := by
  obtain ⟨i0, hi0, hz0, hz1, hz2⟩ := info_parts info_b8
  have hv0 := hv
  obtain ⟨ao, cap, rfl, c1, c2, c3⟩ := hv0
  unfold maxLen at c1
  have hli : (20000 : Int) < ((B.length : Nat) : Int) := by omega
  obtain ⟨b, o, rfl, _, _⟩ := c3 (by omega)
  have hcap : (20000 : Int) ≤ (cap : Int) := by omega
  clear c3
  have bel : Below w.heap.size w w := (Below.refl _ _)
  have bel : Below w.heap.size w w := Below.refl _ _
  go_enter Tryd.func4, Tryd.ntmps4
  go_wp2_with fail
  refine (r7_MadeL).mono ?_
  rintro e w1 ⟨kb, kc, rfl, HK, hb⟩
  replace hv := hv.later hb
  replace bel := below_step bel hb
  clear hb
  replace hv := hv.alloc (.cells [.slice (some ⟨kb, 0, none⟩) 80 kc, .int .u64 14680500436340154072, .int .u64 7105036623409894663, .int .u64 10473403895298186519, .int .u64 1526699215303891257, .int .u64 7436329637833083697, .int .u64 10282925794625328401, .int .u64 15784041429090275239, .int .u64 5167115440072839076].toArray 27)
  replace HK := HK.alloc (.cells [.slice (some ⟨kb, 0, none⟩) 80 kc, .int .u64 14680500436340154072, .int .u64 7105036623409894663, .int .u64 10473403895298186519, .int .u64 1526699215303891257, .int .u64 7436329637833083697, .int .u64 10282925794625328401, .int .u64 15784041429090275239, .int .u64 5167115440072839076].toArray 27)
  have Bt := Blk.new w1 [.slice (some ⟨kb, 0, none⟩) 80 kc, .int .u64 14680500436340154072, .int .u64 7105036623409894663, .int .u64 10473403895298186519, .int .u64 1526699215303891257, .int .u64 7436329637833083697, .int .u64 10282925794625328401, .int .u64 15784041429090275239, .int .u64 5167115440072839076] 27 w1.heap.size rfl
  replace bel := below_alloc (o := .cells [.slice (some ⟨kb, 0, none⟩) 80 kc, .int .u64 14680500436340154072, .int .u64 7105036623409894663, .int .u64 10473403895298186519, .int .u64 1526699215303891257, .int .u64 7436329637833083697, .int .u64 10282925794625328401, .int .u64 15784041429090275239, .int .u64 5167115440072839076].toArray 27) bel
  have lwt : ∀ z, z < w1.heap.size → z ≠ w1.heap.size := fun z h => Nat.ne_of_lt h
  go_upto_region 4 with fail
  obtain ⟨bt, hbt⟩ : ∃ b, b = w1.heap.size := ⟨_, rfl⟩
  clear lwt
  generalize w1.alloc (Obj.cells #[.slice (some ⟨kb, 0, none⟩) 80 kc, .int .u64 14680500436340154072, .int .u64 7105036623409894663, .int .u64 10473403895298186519, .int .u64 1526699215303891257, .int .u64 7436329637833083697, .int .u64 10282925794625328401, .int .u64 15784041429090275239, .int .u64 5167115440072839076] 27) = Wt at *
  rw [← hbt] at Bt ⊢
  clear hbt
  have lbt := Bt.lt
  have bsz := bel.size
  replace hv := bs_take hv hl
  obtain ⟨D, hD⟩ : ∃ D, B.take 20000 = D := ⟨_, rfl⟩
  have bD : byt D := by rw [← hD]; exact byt_take hB _
  have lD : D.length = 20000 := by rw [← hD, List.length_take]; omega
  rw [hD] at hv
  obtain ⟨n, hn⟩ : ∃ n, n = 20000 := ⟨_, rfl⟩
  rw [← hn] at hv lD ⊢
  have n1 : 0 < n := by omega
  have n2 : n ≤ 20000 := by omega
  have hc2 : n ≤ cap := by omega
  clear hD hB hl hli hcap c2 hn
  have HD : Hid (byt D) := bD
  have HLD : Hid (D.length = n) := lD
  clear bD
  have own0 := own_made Wt [] 5 0 Wt.heap.size rfl (Nat.le_refl _) (by decide)
  go_cut [4] (fun ov wx => wx.ownsRow Wt.heap.size 5 1 ov n (u8s D) ∧ Below Wt.heap.size Wt wx)
  case first =>
    have hc0 := bs_cells hv (by omega)
    have HN : Hid (∀ j u, (u8s D)[j]? = some u → (Wt.alloc (.cells #[] 5)).cell? ((⟨b, o, none⟩ : Addr).add j) = some u) := bs_news hc0.1 hc0.2 _
    have HM : Hid ((u8s D).length = n * 1) := by simp [u8s, Hid, lD]
    clear hc0
    go_wp2_with (first | (at_builtin; refine wpList_append_lies _ (by rfl) _ _ _ (by rfl) Wt.heap.size 5 i0 _ 1 1 Tryd.underlying24 hi0 hz0 hz1 hz2 rfl (by omega) _ _ _ (by rfl) own0 ⟨b, o, none⟩ n cap (u8s D) (by rfl) HM.out HN.out (by simp [u8s, Value.oneCell']) (by omega) (by unfold maxLen; omega) (by omega) (by simp) (Wt.heap.size + 1) (by simp) ?_; intro gg cap1 w1 hown1 hgrow hat hlt1) | fail)
    go_meet
    exact ⟨by simpa using hown1, Below.grown ((Below.refl _ _).alloc (Nat.le_refl _) _) hgrow (by simp) (fun j hj => own_ge own0 hj)⟩
  case rest =>
    obtain ⟨hown, hbw⟩ := hcut
    replace hv := hv.later hbw
    replace HK := HK.later hbw
    replace Bt := Bt.later hbw
    replace bel := below_step bel hbw
    have hO := Bs.of_own hown
    clear hbw own0 hown
    go_wp2_with fail
    refine (con_Sum (G.below bel) hO HD.out (by rw [HLD.out]; exact n2)).mono ?_
    rintro e w3 ⟨v3, O, rfl, hS, b3, hb⟩
    replace hv := hv.later hb
    replace HK := HK.later hb
    replace hO := hO.later hb
    replace Bt := Bt.later hb
    replace bel := below_step bel hb
    clear hb
    have HS_ : Hid (SumIs KS HS D O) := hS
    have l48 : O.length = 48 := hS.len
    obtain ⟨g3, o3, k3, rfl, d1, d2⟩ := b3.form (by omega)
    rw [l48] at b3 d1 ⊢
    clear hS
    unfold maxLen at d2
    go_upto_region 6 with fail
    obtain ⟨S1, hS1, KL1, KA1, KD1, KS1, KQ1, KN1, KB1, KM1, KR1⟩ := held3 (w0 := w3) (W := w3) [(bt, [.slice (some ⟨kb, 0, none⟩) 80 kc, .int .u64 14680500436340154072, .int .u64 7105036623409894663, .int .u64 10473403895298186519, .int .u64 1526699215303891257, .int .u64 7436329637833083697, .int .u64 10282925794625328401, .int .u64 15784041429090275239, .int .u64 5167115440072839076])] (by
      intro b X h
      simp only [List.mem_cons, List.not_mem_nil, or_false, Prod.mk.injEq] at h
      obtain ⟨rfl, rfl⟩ := h
      exact Bt) (Below.refl _ _)
    clear KS1 KQ1 KN1 KR1 KA1
    have kb1a : ∀ wx, Hd S1 wx → Blk wx bt [.slice (some ⟨kb, 0, none⟩) 80 kc, .int .u64 14680500436340154072, .int .u64 7105036623409894663, .int .u64 10473403895298186519, .int .u64 1526699215303891257, .int .u64 7436329637833083697, .int .u64 10282925794625328401, .int .u64 15784041429090275239, .int .u64 5167115440072839076] := fun wx h => KM1.out wx _ _ h (List.Mem.head _)
    have r0 := rulec kb1a 0 _ rfl
    have r1 := rulec kb1a 1 _ rfl
    have r2 := rulec kb1a 2 _ rfl
    have r3 := rulec kb1a 3 _ rfl
    have r4 := rulec kb1a 4 _ rfl
    have r5 := rulec kb1a 5 _ rfl
    have r6 := rulec kb1a 6 _ rfl
    have r7 := rulec kb1a 7 _ rfl
    have r8 := rulec kb1a 8 _ rfl
    have rl := ruleb kb1a
    clear kb1a
    have cv : ∀ wx, Hd S1 wx → (convert 24 9 (.slice (some ⟨g3, o3, none⟩) 48 k3)).run Tryd.prog wx = .ok (.string (strOfNums O)) wx := fun wx h => conv_any (b3.later (KB1.out wx h))
    have cw : ∀ wx, Hd S1 wx → (convert 24 9 u4).run Tryd.prog wx = .ok (.string (strOfNums D)) wx := fun wx h => conv_any (hO.later (KB1.out wx h))
    have cx := fun wx (h : Hd S1 wx) => conv_any (hv.later (KB1.out wx h))
    refine wp_region_noPanic ?_
    refine wp_region_held_drew (S := Hd S1) (by kernel_rfl) (KD1.out _ hS1) (fun hHeld => ?_)
    clear hS1
    have hvd : Bs w3.drew _ D := hv
    have HKd : KAt w3.drew kb := HK
    generalize World.drew _ = wd at *
    refine wpAnyH_take (i := 0) (v := ?_) rfl (by kernel_rfl) (by kernel_rfl) (by kernel_rfl) (fun _ _ _ h => h) (Or.inl ⟨by kernel_rfl, ?_⟩) (by assumption) ?_
    rotate_left
    · intro w hSw
      go_simp
      with_reducible rfl
    try simp only [Act.put, List.setIfInBounds_toArray, List.set_cons_zero, List.set_cons_succ]
    refine wpAnyH_take (i := 1) (v := ?_) rfl (by kernel_rfl) (by kernel_rfl) (by kernel_rfl) (fun _ _ _ h => h) (Or.inl ⟨by kernel_rfl, ?_⟩) (by assumption) ?_
    rotate_left
    · intro w hSw
      go_simp
      with_reducible rfl
    try simp only [Act.put, List.setIfInBounds_toArray, List.set_cons_zero, List.set_cons_succ]
    refine wpAnyH_take (i := 2) (v := ?_) rfl (by kernel_rfl) (by kernel_rfl) (by kernel_rfl) (fun _ _ _ h => h) (Or.inl ⟨by kernel_rfl, ?_⟩) (by assumption) ?_
    rotate_left
    · intro w hSw
      go_simp
      with_reducible rfl
    try simp only [Act.put, List.setIfInBounds_toArray, List.set_cons_zero, List.set_cons_succ]
    refine wpAnyH_take (i := 3) (v := ?_) rfl (by kernel_rfl) (by kernel_rfl) (by kernel_rfl) (fun _ _ _ h => h) (Or.inl ⟨by kernel_rfl, ?_⟩) (by assumption) ?_
    rotate_left
    · intro w hSw
      go_simp
      with_reducible rfl
    try simp only [Act.put, List.setIfInBounds_toArray, List.set_cons_zero, List.set_cons_succ]
    refine wpAnyH_take (i := 4) (v := ?_) rfl (by kernel_rfl) (by kernel_rfl) (by kernel_rfl) (fun _ _ _ h => h) (Or.inl ⟨by kernel_rfl, ?_⟩) (by assumption) ?_
    rotate_left
    · intro w hSw
      go_simp
      with_reducible rfl
    try simp only [Act.put, List.setIfInBounds_toArray, List.set_cons_zero, List.set_cons_succ]
    refine wpAnyH_take (i := 5) (v := ?_) rfl (by kernel_rfl) (by kernel_rfl) (by kernel_rfl) (fun _ _ _ h => h) (Or.inl ⟨by kernel_rfl, ?_⟩) (by assumption) ?_
    rotate_left
    · intro w hSw
      go_simp
      with_reducible rfl
    try simp only [Act.put, List.setIfInBounds_toArray, List.set_cons_zero, List.set_cons_succ]
    refine wpAnyH_take (i := 6) (v := ?_) rfl (by kernel_rfl) (by kernel_rfl) (by kernel_rfl) (fun _ _ _ h => h) (Or.inl ⟨by kernel_rfl, ?_⟩) (by assumption) ?_
    rotate_left
    · intro w hSw
      go_simp
      with_reducible rfl
    try simp only [Act.put, List.setIfInBounds_toArray, List.set_cons_zero, List.set_cons_succ]
    refine wpAnyH_take (i := 7) (v := ?_) rfl (by kernel_rfl) (by kernel_rfl) (by kernel_rfl) (fun _ _ _ h => h) (Or.inl ⟨by kernel_rfl, ?_⟩) (by assumption) ?_
    rotate_left
    · intro w hSw
      go_simp
      with_reducible rfl
    try simp only [Act.put, List.setIfInBounds_toArray, List.set_cons_zero, List.set_cons_succ]
    refine wpAnyH_ready (rs := [8]) (by kernel_rfl) (by simp) ?_
    refine AllReadyH.cons rfl (fun K hK => ?_) ?_
    · go_simp
      go_fit (r7_Sum HKd hvd HD.out (by rw [HLD.out]; exact n2) fits_HS)
      rintro e w' ⟨v5, rfl, ⟨P5, O5, p5, o5, own5⟩, hb⟩
      obtain rfl := HS_.out.one ⟨P5, p5, o5⟩
      obtain ⟨g5, k5, rfl, _, _, _, _⟩ := own_form own5 (by decide)
      have cy := conv_any (Bs.of_own own5)
      clear p5 o5
      refine hK.out _ _ ?_ (fun hHeld2 => ?_)
      · exact KL1.out _ _ hHeld hb
      · clear hK K hHeld
        have hHeld := hHeld2
        clear hHeld2
        try simp only [Act.put, List.setIfInBounds_toArray, List.set_cons_zero, List.set_cons_succ]
        clear hb
        refine wpAnyH_ready (rs := [9]) (by kernel_rfl) (by simp) ?_
        refine AllReadyH.cons rfl (fun K hK => ?_) ?_
        · go_simp
          refine hK.out _ _ ?_ (fun hHeld2 => ?_)
          · exact hHeld
          · clear hK K hHeld
            have hHeld := hHeld2
            clear hHeld2
            try simp only [Act.put, List.setIfInBounds_toArray, List.set_cons_zero, List.set_cons_succ]
            clear cy
            refine wpAnyH_take (i := 10) (v := ?_) rfl (by kernel_rfl) (by kernel_rfl) (by kernel_rfl) (fun _ _ _ h => h) (Or.inl ⟨by kernel_rfl, ?_⟩) (by assumption) ?_
            rotate_left
            · intro w hSw
              go_simp
              with_reducible rfl
            try simp only [Act.put, List.setIfInBounds_toArray, List.set_cons_zero, List.set_cons_succ]
            refine wpAnyH_take (i := 11) (v := ?_) rfl (by kernel_rfl) (by kernel_rfl) (by kernel_rfl) (fun _ _ _ h => h) (Or.inl ⟨by kernel_rfl, ?_⟩) (by assumption) ?_
            rotate_left
            · intro w hSw
              go_simp
              with_reducible rfl
            try simp only [Act.put, List.setIfInBounds_toArray, List.set_cons_zero, List.set_cons_succ]
            refine wpAnyH_take (i := 12) (v := ?_) rfl (by kernel_rfl) (by kernel_rfl) (by kernel_rfl) (fun _ _ _ h => h) (Or.inl ⟨by kernel_rfl, ?_⟩) (by assumption) ?_
            rotate_left
            · intro w hSw
              go_simp
              with_reducible rfl
            try simp only [Act.put, List.setIfInBounds_toArray, List.set_cons_zero, List.set_cons_succ]
            refine wpAnyH_take (i := 13) (v := ?_) rfl (by kernel_rfl) (by kernel_rfl) (by kernel_rfl) (fun _ _ _ h => h) (Or.inl ⟨by kernel_rfl, ?_⟩) (by assumption) ?_
            rotate_left
            · intro w hSw
              go_simp
              with_reducible rfl
            try simp only [Act.put, List.setIfInBounds_toArray, List.set_cons_zero, List.set_cons_succ]
            refine wpAnyH_take (i := 14) (v := ?_) rfl (by kernel_rfl) (by kernel_rfl) (by kernel_rfl) (fun _ _ _ h => h) (Or.inl ⟨by kernel_rfl, ?_⟩) (by assumption) ?_
            rotate_left
            · intro w hSw
              go_simp
              with_reducible rfl
            try simp only [Act.put, List.setIfInBounds_toArray, List.set_cons_zero, List.set_cons_succ]
            refine wpAnyH_take (i := 15) (v := ?_) rfl (by kernel_rfl) (by kernel_rfl) (by kernel_rfl) (fun _ _ _ h => h) (Or.inl ⟨by kernel_rfl, ?_⟩) (by assumption) ?_
            rotate_left
            · intro w hSw
              go_simp
              with_reducible rfl
            try simp only [Act.put, List.setIfInBounds_toArray, List.set_cons_zero, List.set_cons_succ]
            refine wpAnyH_take (i := 16) (v := ?_) rfl (by kernel_rfl) (by kernel_rfl) (by kernel_rfl) (fun _ _ _ h => h) (Or.inl ⟨by kernel_rfl, ?_⟩) (by assumption) ?_
            rotate_left
            · intro w hSw
              go_simp
              with_reducible rfl
            try simp only [Act.put, List.setIfInBounds_toArray, List.set_cons_zero, List.set_cons_succ]
            refine wpAnyH_take (i := 17) (v := ?_) rfl (by kernel_rfl) (by kernel_rfl) (by kernel_rfl) (fun _ _ _ h => h) (Or.inl ⟨by kernel_rfl, ?_⟩) (by assumption) ?_
            rotate_left
            · intro w hSw
              go_simp
              with_reducible rfl
            try simp only [Act.put, List.setIfInBounds_toArray, List.set_cons_zero, List.set_cons_succ]
            refine wpAnyH_take (i := 18) (v := ?_) rfl (by kernel_rfl) (by kernel_rfl) (by kernel_rfl) (fun _ _ _ h => h) (Or.inl ⟨by kernel_rfl, ?_⟩) (by assumption) ?_
            rotate_left
            · intro w hSw
              go_simp
              with_reducible rfl
            try simp only [Act.put, List.setIfInBounds_toArray, List.set_cons_zero, List.set_cons_succ]
            refine wpAnyH_ready (rs := [19]) (by kernel_rfl) (by simp) ?_
            refine AllReadyH.cons rfl (fun K hK => ?_) ?_
            · go_simp
              refine hK.out _ _ ?_ (fun hHeld2 => ?_)
              · exact hHeld
              · clear hK K hHeld
                have hHeld := hHeld2
                clear hHeld2
                try simp only [Act.put, List.setIfInBounds_toArray, List.set_cons_zero, List.set_cons_succ]
                refine wpAnyH_done (by kernel_rfl) ?_ _
                refine NoPanic.normal ?_
                go_wp2_with fail
                go_ret
                exact ⟨rfl, below_step bel (KB1.out _ hHeld)⟩
            exact AllReadyH.nil
        exact AllReadyH.nil
    exact AllReadyH.nil

set_option linter.unusedSimpArgs false in
set_option maxRecDepth 100000 in
set_option maxHeartbeats 2000000 in
theorem sums_short {v : Value} {B : List Int} {w : World} (G : GlsS w) (hv : Bs w v B) (hB : byt B) (hl : ¬ 20000 < B.length) :
    Calls Tryd.prog 4 #[v] w fun e w' => e = .returned (.bool true) ∧ Below w.heap.size w w' := by
  obtain ⟨i0, hi0, hz0, hz1, hz2⟩ := info_parts info_b8
  have hv0 := hv
  obtain ⟨ao, cap, rfl, c1, c2, c3⟩ := hv0
  unfold maxLen at c1
  have hli : ¬ (20000 : Int) < ((B.length : Nat) : Int) := by omega
  clear c3
  have bel : Below w.heap.size w w := (Below.refl _ _)
  have bel : Below w.heap.size w w := Below.refl _ _
  go_enter Tryd.func4, Tryd.ntmps4
  go_wp2_with fail
  refine (r7_MadeL).mono ?_
  rintro e w1 ⟨kb, kc, rfl, HK, hb⟩
  replace hv := hv.later hb
  replace bel := below_step bel hb
  clear hb
  replace hv := hv.alloc (.cells [.slice (some ⟨kb, 0, none⟩) 80 kc, .int .u64 14680500436340154072, .int .u64 7105036623409894663, .int .u64 10473403895298186519, .int .u64 1526699215303891257, .int .u64 7436329637833083697, .int .u64 10282925794625328401, .int .u64 15784041429090275239, .int .u64 5167115440072839076].toArray 27)
  replace HK := HK.alloc (.cells [.slice (some ⟨kb, 0, none⟩) 80 kc, .int .u64 14680500436340154072, .int .u64 7105036623409894663, .int .u64 10473403895298186519, .int .u64 1526699215303891257, .int .u64 7436329637833083697, .int .u64 10282925794625328401, .int .u64 15784041429090275239, .int .u64 5167115440072839076].toArray 27)
  have Bt := Blk.new w1 [.slice (some ⟨kb, 0, none⟩) 80 kc, .int .u64 14680500436340154072, .int .u64 7105036623409894663, .int .u64 10473403895298186519, .int .u64 1526699215303891257, .int .u64 7436329637833083697, .int .u64 10282925794625328401, .int .u64 15784041429090275239, .int .u64 5167115440072839076] 27 w1.heap.size rfl
  replace bel := below_alloc (o := .cells [.slice (some ⟨kb, 0, none⟩) 80 kc, .int .u64 14680500436340154072, .int .u64 7105036623409894663, .int .u64 10473403895298186519, .int .u64 1526699215303891257, .int .u64 7436329637833083697, .int .u64 10282925794625328401, .int .u64 15784041429090275239, .int .u64 5167115440072839076].toArray 27) bel
  have lwt : ∀ z, z < w1.heap.size → z ≠ w1.heap.size := fun z h => Nat.ne_of_lt h
  go_upto_region 4 with fail
  obtain ⟨bt, hbt⟩ : ∃ b, b = w1.heap.size := ⟨_, rfl⟩
  clear lwt
  generalize w1.alloc (Obj.cells #[.slice (some ⟨kb, 0, none⟩) 80 kc, .int .u64 14680500436340154072, .int .u64 7105036623409894663, .int .u64 10473403895298186519, .int .u64 1526699215303891257, .int .u64 7436329637833083697, .int .u64 10282925794625328401, .int .u64 15784041429090275239, .int .u64 5167115440072839076] 27) = Wt at *
  rw [← hbt] at Bt ⊢
  clear hbt
  have lbt := Bt.lt
  have bsz := bel.size
  obtain ⟨D, hD⟩ : ∃ D, D = B := ⟨_, rfl⟩
  rw [← hD] at hv hB hl c2 ⊢
  have bD : byt D := hB
  obtain ⟨n, lD⟩ : ∃ n, D.length = n := ⟨_, rfl⟩
  have hn : n ≤ 20000 := by omega
  rw [lD] at hv c2 ⊢
  have hli2 : ¬ (20000 : Int) < (n : Int) := by omega
  have hli3 : decide ((20000 : Int) < (n : Int)) = false := decide_eq_false hli2
  rw [hli3]
  clear hli3
  have n2 : n ≤ 20000 := by omega
  have hc2 : n ≤ cap := by omega
  clear hD hB hl hli hn c2
  have HD : Hid (byt D) := bD
  have HLD : Hid (D.length = n) := lD
  clear bD
  have own0 := own_made Wt [] 5 0 Wt.heap.size rfl (Nat.le_refl _) (by decide)
  go_cut [4] (fun ov wx => wx.ownsRow Wt.heap.size 5 1 ov n (u8s D) ∧ Below Wt.heap.size Wt wx)
  case first =>
    by_cases h0 : n = 0
    · obtain rfl : D = [] := List.eq_nil_of_length_eq_zero (by omega)
      subst h0
      cases ao
      all_goals go_wp2
      all_goals go_meet
      all_goals exact ⟨own0, (Below.refl _ _).alloc (Nat.le_refl _) _⟩
    · have hv1 := hv
      obtain ⟨b, o, cap', hve, _, _⟩ := hv1.form (by omega)
      simp only [Value.slice.injEq] at hve
      obtain ⟨rfl, -, -⟩ := hve
      have hc0 := bs_cells hv (by omega)
      have HN : Hid (∀ j u, (u8s D)[j]? = some u → (Wt.alloc (.cells #[] 5)).cell? ((⟨b, o, none⟩ : Addr).add j) = some u) := bs_news hc0.1 hc0.2 _
      have HM : Hid ((u8s D).length = n * 1) := by simp [u8s, Hid, lD]
      clear hc0
      go_wp2_with (first | (at_builtin; refine wpList_append_lies _ (by rfl) _ _ _ (by rfl) Wt.heap.size 5 i0 _ 1 1 Tryd.underlying24 hi0 hz0 hz1 hz2 rfl (by omega) _ _ _ (by rfl) own0 ⟨b, o, none⟩ n cap (u8s D) (by rfl) HM.out HN.out (by simp [u8s, Value.oneCell']) (by omega) (by unfold maxLen; omega) (by omega) (by simp) (Wt.heap.size + 1) (by simp) ?_; intro gg cap1 w1 hown1 hgrow hat hlt1) | fail)
      go_meet
      exact ⟨by simpa using hown1, Below.grown ((Below.refl _ _).alloc (Nat.le_refl _) _) hgrow (by simp) (fun j hj => own_ge own0 hj)⟩
  case rest =>
    obtain ⟨hown, hbw⟩ := hcut
    replace hv := hv.later hbw
    replace HK := HK.later hbw
    replace Bt := Bt.later hbw
    replace bel := below_step bel hbw
    have hO := Bs.of_own hown
    clear hbw own0 hown
    go_wp2_with fail
    refine (con_Sum (G.below bel) hO HD.out (by rw [HLD.out]; exact n2)).mono ?_
    rintro e w3 ⟨v3, O, rfl, hS, b3, hb⟩
    replace hv := hv.later hb
    replace HK := HK.later hb
    replace hO := hO.later hb
    replace Bt := Bt.later hb
    replace bel := below_step bel hb
    clear hb
    have HS_ : Hid (SumIs KS HS D O) := hS
    have l48 : O.length = 48 := hS.len
    obtain ⟨g3, o3, k3, rfl, d1, d2⟩ := b3.form (by omega)
    rw [l48] at b3 d1 ⊢
    clear hS
    unfold maxLen at d2
    go_upto_region 6 with fail
    obtain ⟨S1, hS1, KL1, KA1, KD1, KS1, KQ1, KN1, KB1, KM1, KR1⟩ := held3 (w0 := w3) (W := w3) [(bt, [.slice (some ⟨kb, 0, none⟩) 80 kc, .int .u64 14680500436340154072, .int .u64 7105036623409894663, .int .u64 10473403895298186519, .int .u64 1526699215303891257, .int .u64 7436329637833083697, .int .u64 10282925794625328401, .int .u64 15784041429090275239, .int .u64 5167115440072839076])] (by
      intro b X h
      simp only [List.mem_cons, List.not_mem_nil, or_false, Prod.mk.injEq] at h
      obtain ⟨rfl, rfl⟩ := h
      exact Bt) (Below.refl _ _)
    clear KS1 KQ1 KN1 KR1 KA1
    have kb1a : ∀ wx, Hd S1 wx → Blk wx bt [.slice (some ⟨kb, 0, none⟩) 80 kc, .int .u64 14680500436340154072, .int .u64 7105036623409894663, .int .u64 10473403895298186519, .int .u64 1526699215303891257, .int .u64 7436329637833083697, .int .u64 10282925794625328401, .int .u64 15784041429090275239, .int .u64 5167115440072839076] := fun wx h => KM1.out wx _ _ h (List.Mem.head _)
    have r0 := rulec kb1a 0 _ rfl
    have r1 := rulec kb1a 1 _ rfl
    have r2 := rulec kb1a 2 _ rfl
    have r3 := rulec kb1a 3 _ rfl
    have r4 := rulec kb1a 4 _ rfl
    have r5 := rulec kb1a 5 _ rfl
    have r6 := rulec kb1a 6 _ rfl
    have r7 := rulec kb1a 7 _ rfl
    have r8 := rulec kb1a 8 _ rfl
    have rl := ruleb kb1a
    clear kb1a
    have cv : ∀ wx, Hd S1 wx → (convert 24 9 (.slice (some ⟨g3, o3, none⟩) 48 k3)).run Tryd.prog wx = .ok (.string (strOfNums O)) wx := fun wx h => conv_any (b3.later (KB1.out wx h))
    have cw : ∀ wx, Hd S1 wx → (convert 24 9 u4).run Tryd.prog wx = .ok (.string (strOfNums D)) wx := fun wx h => conv_any (hO.later (KB1.out wx h))
    have cx := fun wx (h : Hd S1 wx) => conv_any (hv.later (KB1.out wx h))
    refine wp_region_noPanic ?_
    refine wp_region_held_drew (S := Hd S1) (by kernel_rfl) (KD1.out _ hS1) (fun hHeld => ?_)
    clear hS1
    have hvd : Bs w3.drew _ D := hv
    have HKd : KAt w3.drew kb := HK
    generalize World.drew _ = wd at *
    refine wpAnyH_take (i := 0) (v := ?_) rfl (by kernel_rfl) (by kernel_rfl) (by kernel_rfl) (fun _ _ _ h => h) (Or.inl ⟨by kernel_rfl, ?_⟩) (by assumption) ?_
    rotate_left
    · intro w hSw
      go_simp
      with_reducible rfl
    try simp only [Act.put, List.setIfInBounds_toArray, List.set_cons_zero, List.set_cons_succ]
    refine wpAnyH_take (i := 1) (v := ?_) rfl (by kernel_rfl) (by kernel_rfl) (by kernel_rfl) (fun _ _ _ h => h) (Or.inl ⟨by kernel_rfl, ?_⟩) (by assumption) ?_
    rotate_left
    · intro w hSw
      go_simp
      with_reducible rfl
    try simp only [Act.put, List.setIfInBounds_toArray, List.set_cons_zero, List.set_cons_succ]
    refine wpAnyH_take (i := 2) (v := ?_) rfl (by kernel_rfl) (by kernel_rfl) (by kernel_rfl) (fun _ _ _ h => h) (Or.inl ⟨by kernel_rfl, ?_⟩) (by assumption) ?_
    rotate_left
    · intro w hSw
      go_simp
      with_reducible rfl
    try simp only [Act.put, List.setIfInBounds_toArray, List.set_cons_zero, List.set_cons_succ]
    refine wpAnyH_take (i := 3) (v := ?_) rfl (by kernel_rfl) (by kernel_rfl) (by kernel_rfl) (fun _ _ _ h => h) (Or.inl ⟨by kernel_rfl, ?_⟩) (by assumption) ?_
    rotate_left
    · intro w hSw
      go_simp
      with_reducible rfl
    try simp only [Act.put, List.setIfInBounds_toArray, List.set_cons_zero, List.set_cons_succ]
    refine wpAnyH_take (i := 4) (v := ?_) rfl (by kernel_rfl) (by kernel_rfl) (by kernel_rfl) (fun _ _ _ h => h) (Or.inl ⟨by kernel_rfl, ?_⟩) (by assumption) ?_
    rotate_left
    · intro w hSw
      go_simp
      with_reducible rfl
    try simp only [Act.put, List.setIfInBounds_toArray, List.set_cons_zero, List.set_cons_succ]
    refine wpAnyH_take (i := 5) (v := ?_) rfl (by kernel_rfl) (by kernel_rfl) (by kernel_rfl) (fun _ _ _ h => h) (Or.inl ⟨by kernel_rfl, ?_⟩) (by assumption) ?_
    rotate_left
    · intro w hSw
      go_simp
      with_reducible rfl
    try simp only [Act.put, List.setIfInBounds_toArray, List.set_cons_zero, List.set_cons_succ]
    refine wpAnyH_take (i := 6) (v := ?_) rfl (by kernel_rfl) (by kernel_rfl) (by kernel_rfl) (fun _ _ _ h => h) (Or.inl ⟨by kernel_rfl, ?_⟩) (by assumption) ?_
    rotate_left
    · intro w hSw
      go_simp
      with_reducible rfl
    try simp only [Act.put, List.setIfInBounds_toArray, List.set_cons_zero, List.set_cons_succ]
    refine wpAnyH_take (i := 7) (v := ?_) rfl (by kernel_rfl) (by kernel_rfl) (by kernel_rfl) (fun _ _ _ h => h) (Or.inl ⟨by kernel_rfl, ?_⟩) (by assumption) ?_
    rotate_left
    · intro w hSw
      go_simp
      with_reducible rfl
    try simp only [Act.put, List.setIfInBounds_toArray, List.set_cons_zero, List.set_cons_succ]
    refine wpAnyH_ready (rs := [8]) (by kernel_rfl) (by simp) ?_
    refine AllReadyH.cons rfl (fun K hK => ?_) ?_
    · go_simp
      go_fit (r7_Sum HKd hvd HD.out (by rw [HLD.out]; exact n2) fits_HS)
      rintro e w' ⟨v5, rfl, ⟨P5, O5, p5, o5, own5⟩, hb⟩
      obtain rfl := HS_.out.one ⟨P5, p5, o5⟩
      obtain ⟨g5, k5, rfl, _, _, _, _⟩ := own_form own5 (by decide)
      have cy := conv_any (Bs.of_own own5)
      clear p5 o5
      refine hK.out _ _ ?_ (fun hHeld2 => ?_)
      · exact KL1.out _ _ hHeld hb
      · clear hK K hHeld
        have hHeld := hHeld2
        clear hHeld2
        try simp only [Act.put, List.setIfInBounds_toArray, List.set_cons_zero, List.set_cons_succ]
        clear hb
        refine wpAnyH_ready (rs := [9]) (by kernel_rfl) (by simp) ?_
        refine AllReadyH.cons rfl (fun K hK => ?_) ?_
        · go_simp
          refine hK.out _ _ ?_ (fun hHeld2 => ?_)
          · exact hHeld
          · clear hK K hHeld
            have hHeld := hHeld2
            clear hHeld2
            try simp only [Act.put, List.setIfInBounds_toArray, List.set_cons_zero, List.set_cons_succ]
            clear cy
            refine wpAnyH_take (i := 10) (v := ?_) rfl (by kernel_rfl) (by kernel_rfl) (by kernel_rfl) (fun _ _ _ h => h) (Or.inl ⟨by kernel_rfl, ?_⟩) (by assumption) ?_
            rotate_left
            · intro w hSw
              go_simp
              with_reducible rfl
            try simp only [Act.put, List.setIfInBounds_toArray, List.set_cons_zero, List.set_cons_succ]
            refine wpAnyH_take (i := 11) (v := ?_) rfl (by kernel_rfl) (by kernel_rfl) (by kernel_rfl) (fun _ _ _ h => h) (Or.inl ⟨by kernel_rfl, ?_⟩) (by assumption) ?_
            rotate_left
            · intro w hSw
              go_simp
              with_reducible rfl
            try simp only [Act.put, List.setIfInBounds_toArray, List.set_cons_zero, List.set_cons_succ]
            refine wpAnyH_take (i := 12) (v := ?_) rfl (by kernel_rfl) (by kernel_rfl) (by kernel_rfl) (fun _ _ _ h => h) (Or.inl ⟨by kernel_rfl, ?_⟩) (by assumption) ?_
            rotate_left
            · intro w hSw
              go_simp
              with_reducible rfl
            try simp only [Act.put, List.setIfInBounds_toArray, List.set_cons_zero, List.set_cons_succ]
            refine wpAnyH_take (i := 13) (v := ?_) rfl (by kernel_rfl) (by kernel_rfl) (by kernel_rfl) (fun _ _ _ h => h) (Or.inl ⟨by kernel_rfl, ?_⟩) (by assumption) ?_
            rotate_left
            · intro w hSw
              go_simp
              with_reducible rfl
            try simp only [Act.put, List.setIfInBounds_toArray, List.set_cons_zero, List.set_cons_succ]
            refine wpAnyH_take (i := 14) (v := ?_) rfl (by kernel_rfl) (by kernel_rfl) (by kernel_rfl) (fun _ _ _ h => h) (Or.inl ⟨by kernel_rfl, ?_⟩) (by assumption) ?_
            rotate_left
            · intro w hSw
              go_simp
              with_reducible rfl
            try simp only [Act.put, List.setIfInBounds_toArray, List.set_cons_zero, List.set_cons_succ]
            refine wpAnyH_take (i := 15) (v := ?_) rfl (by kernel_rfl) (by kernel_rfl) (by kernel_rfl) (fun _ _ _ h => h) (Or.inl ⟨by kernel_rfl, ?_⟩) (by assumption) ?_
            rotate_left
            · intro w hSw
              go_simp
              with_reducible rfl
            try simp only [Act.put, List.setIfInBounds_toArray, List.set_cons_zero, List.set_cons_succ]
            refine wpAnyH_take (i := 16) (v := ?_) rfl (by kernel_rfl) (by kernel_rfl) (by kernel_rfl) (fun _ _ _ h => h) (Or.inl ⟨by kernel_rfl, ?_⟩) (by assumption) ?_
            rotate_left
            · intro w hSw
              go_simp
              with_reducible rfl
            try simp only [Act.put, List.setIfInBounds_toArray, List.set_cons_zero, List.set_cons_succ]
            refine wpAnyH_take (i := 17) (v := ?_) rfl (by kernel_rfl) (by kernel_rfl) (by kernel_rfl) (fun _ _ _ h => h) (Or.inl ⟨by kernel_rfl, ?_⟩) (by assumption) ?_
            rotate_left
            · intro w hSw
              go_simp
              with_reducible rfl
            try simp only [Act.put, List.setIfInBounds_toArray, List.set_cons_zero, List.set_cons_succ]
            refine wpAnyH_take (i := 18) (v := ?_) rfl (by kernel_rfl) (by kernel_rfl) (by kernel_rfl) (fun _ _ _ h => h) (Or.inl ⟨by kernel_rfl, ?_⟩) (by assumption) ?_
            rotate_left
            · intro w hSw
              go_simp
              with_reducible rfl
            try simp only [Act.put, List.setIfInBounds_toArray, List.set_cons_zero, List.set_cons_succ]
            refine wpAnyH_ready (rs := [19]) (by kernel_rfl) (by simp) ?_
            refine AllReadyH.cons rfl (fun K hK => ?_) ?_
            · go_simp
              refine hK.out _ _ ?_ (fun hHeld2 => ?_)
              · exact hHeld
              · clear hK K hHeld
                have hHeld := hHeld2
                clear hHeld2
                try simp only [Act.put, List.setIfInBounds_toArray, List.set_cons_zero, List.set_cons_succ]
                refine wpAnyH_done (by kernel_rfl) ?_ _
                refine NoPanic.normal ?_
                go_wp2_with fail
                go_ret
                exact ⟨rfl, below_step bel (KB1.out _ hHeld)⟩
            exact AllReadyH.nil
        exact AllReadyH.nil
    exact AllReadyH.nil

theorem law_shaSums (v : Value) (B : List Int) (w : World) (G : GlsS w) (hv : Bs w v B) (hB : byt B) :
    Calls Tryd.prog 4 #[v] w fun e w' => e = .returned (.bool true) ∧ Below w.heap.size w w' := by
  by_cases hl : 20000 < B.length
  · exact sums_long G hv hB hl
  · exact sums_short G hv hB hl

end Go.Proofs.YtlikglabnfblcaaDoor
