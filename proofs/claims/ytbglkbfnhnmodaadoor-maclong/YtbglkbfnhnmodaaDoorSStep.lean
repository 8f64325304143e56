/- The document's Step: a block's. -/
import Derived.Test.YtbglkbfnhnmodaaDoorRows
import Derived.Test.YtbglkbfnhnmodaaDoorSSched
import Derived.Test.YtbglkbfnhnmodaaDoorSRoundL
import Derived.Test.YtbglkbfnhnmodaaDoorShape
import Derived.Deep.WholeRow
import Derived.Deep.RegionHeld3
import Derived.Deep.DeepCutAuto
import Derived.Deep.DeepFit
namespace Go.Proofs.YtbglkbfnhnmodaaDoor
open Go.RowKit

theorem row_u64 {w : World} {base : Nat} {e : TypeId} {v : Value} {n : Nat} {D : List Int} (h : w.ownsRow base e 1 v n (us D)) (h0 : 0 < n) : ∃ g cap cur, v = .slice (some ⟨g, 0, none⟩) n cap ∧ base ≤ g ∧ Blk w g cur ∧ ∀ j, j < n → cur[j]? = some (.int .u64 (D.getD j 0)) := by
  obtain ⟨hl, h⟩ := h
  have hn : D.length = n := by simpa using hl
  rcases h with ⟨h1, h2⟩ | ⟨g, cap, cur, h1, h2, h3, h4, h5, h6, h7⟩
  · omega
  · refine ⟨g, cap, cur.toList, h1, h2, ⟨e, by simpa using h3⟩, fun j hj => ?_⟩
    have e1 : (cur.toList.take (n * 1))[j]? = some (.int .u64 (D.getD j 0)) := by rw [h7]; exact us_get D j (by omega)
    rw [List.getElem?_take, if_pos (by omega)] at e1
    exact e1
theorem Blk.on_put8 {S : World → Prop} {w : World} {b : Nat} {x0 x1 x2 x3 x4 x5 x6 x7 y0 y1 y2 y3 y4 y5 y6 y7 : Int} (B : Blk w b (us [x0, x1, x2, x3, x4, x5, x6, x7])) (_ : Hd S (((((((((w.setCell ⟨b, 0, none⟩ (.int .u64 y0)).setCell ⟨b, 1, none⟩ (.int .u64 y1)).setCell ⟨b, 2, none⟩ (.int .u64 y2)).setCell ⟨b, 3, none⟩ (.int .u64 y3)).setCell ⟨b, 4, none⟩ (.int .u64 y4)).setCell ⟨b, 5, none⟩ (.int .u64 y5)).setCell ⟨b, 6, none⟩ (.int .u64 y6)).setCell ⟨b, 7, none⟩ (.int .u64 y7)))) : Blk (((((((((w.setCell ⟨b, 0, none⟩ (.int .u64 y0)).setCell ⟨b, 1, none⟩ (.int .u64 y1)).setCell ⟨b, 2, none⟩ (.int .u64 y2)).setCell ⟨b, 3, none⟩ (.int .u64 y3)).setCell ⟨b, 4, none⟩ (.int .u64 y4)).setCell ⟨b, 5, none⟩ (.int .u64 y5)).setCell ⟨b, 6, none⟩ (.int .u64 y6)).setCell ⟨b, 7, none⟩ (.int .u64 y7))) b (us [y0, y1, y2, y3, y4, y5, y6, y7]) :=
  (((((((B.setu 0 y0).setu 1 y1).setu 2 y2).setu 3 y3).setu 4 y4).setu 5 y5).setu 6 y6).setu 7 y7

set_option linter.unusedSimpArgs false in
set_option maxRecDepth 100000 in
set_option maxHeartbeats 4000000 in
theorem r7_Step {t0 t1 t2 t3 t4 t5 t6 t7 h0 h1 h2 h3 h4 h5 h6 h7 : Int} {K B : List Int} {v : Value} {kb kc : Nat} {w : World} (hK : ∀ j, j < 80 → w.cell? ⟨kb, j, none⟩ = some (.int .u64 (K.getD j 0))) (hv : Bs w v B) (hB : byt B) (l : B.length = 128) :
    Calls Tryd.prog 30 #[.agg #[.slice (some ⟨kb, 0, none⟩) 80 kc, .int .u64 t0, .int .u64 t1, .int .u64 t2, .int .u64 t3, .int .u64 t4, .int .u64 t5, .int .u64 t6, .int .u64 t7], .agg #[.int .u64 h0, .int .u64 h1, .int .u64 h2, .int .u64 h3, .int .u64 h4, .int .u64 h5, .int .u64 h6, .int .u64 h7], v] w fun e w' => e = .returned (.agg (us (stepN K [h0, h1, h2, h3, h4, h5, h6, h7] B)).toArray) ∧ Below w.heap.size w w' := by
  obtain ⟨W0, hW0⟩ : ∃ W, schN B 80 = W := ⟨_, rfl⟩
  have HW : Hid (schN B 80 = W0) := hW0
  have HKc : Hid (∀ j, j < 80 → w.cell? ⟨kb, j, none⟩ = some (.int .u64 (K.getD j 0))) := hK
  clear hK hW0
  have B0 := ((Blk.new w [.slice (some ⟨kb, 0, none⟩) 80 kc, .int .u64 t0, .int .u64 t1, .int .u64 t2, .int .u64 t3, .int .u64 t4, .int .u64 t5, .int .u64 t6, .int .u64 t7] 29 (w.heap.size) rfl).alloc (.cells [.int .u64 h0, .int .u64 h1, .int .u64 h2, .int .u64 h3, .int .u64 h4, .int .u64 h5, .int .u64 h6, .int .u64 h7].toArray 27)).alloc (.cells [.int .u64 0, .int .u64 0, .int .u64 0, .int .u64 0, .int .u64 0, .int .u64 0, .int .u64 0, .int .u64 0].toArray 27)
  have B1 := (Blk.new (w.alloc (.cells [.slice (some ⟨kb, 0, none⟩) 80 kc, .int .u64 t0, .int .u64 t1, .int .u64 t2, .int .u64 t3, .int .u64 t4, .int .u64 t5, .int .u64 t6, .int .u64 t7].toArray 29)) [.int .u64 h0, .int .u64 h1, .int .u64 h2, .int .u64 h3, .int .u64 h4, .int .u64 h5, .int .u64 h6, .int .u64 h7] 27 (w.heap.size + 1) (by simp)).alloc (.cells [.int .u64 0, .int .u64 0, .int .u64 0, .int .u64 0, .int .u64 0, .int .u64 0, .int .u64 0, .int .u64 0].toArray 27)
  have B2 := Blk.new ((w.alloc (.cells [.slice (some ⟨kb, 0, none⟩) 80 kc, .int .u64 t0, .int .u64 t1, .int .u64 t2, .int .u64 t3, .int .u64 t4, .int .u64 t5, .int .u64 t6, .int .u64 t7].toArray 29)).alloc (.cells [.int .u64 h0, .int .u64 h1, .int .u64 h2, .int .u64 h3, .int .u64 h4, .int .u64 h5, .int .u64 h6, .int .u64 h7].toArray 27)) [.int .u64 0, .int .u64 0, .int .u64 0, .int .u64 0, .int .u64 0, .int .u64 0, .int .u64 0, .int .u64 0] 27 (w.heap.size + 1 + 1) (by simp)
  have bel : Below w.heap.size w (((w.alloc (.cells [.slice (some ⟨kb, 0, none⟩) 80 kc, .int .u64 t0, .int .u64 t1, .int .u64 t2, .int .u64 t3, .int .u64 t4, .int .u64 t5, .int .u64 t6, .int .u64 t7].toArray 29)).alloc (.cells [.int .u64 h0, .int .u64 h1, .int .u64 h2, .int .u64 h3, .int .u64 h4, .int .u64 h5, .int .u64 h6, .int .u64 h7].toArray 27)).alloc (.cells [.int .u64 0, .int .u64 0, .int .u64 0, .int .u64 0, .int .u64 0, .int .u64 0, .int .u64 0, .int .u64 0].toArray 27)) := ((((Below.refl _ _).alloc (Nat.le_refl _) _).alloc (by simp) _).alloc (by simp; omega) _)
  go_enter Tryd.func30, Tryd.ntmps30
  go_upto_region 1 with fail
  try simp only [us, List.map_cons, List.map_nil] at bel
  generalize (((w.alloc (Obj.cells #[.slice (some ⟨kb, 0, none⟩) 80 kc, .int .u64 t0, .int .u64 t1, .int .u64 t2, .int .u64 t3, .int .u64 t4, .int .u64 t5, .int .u64 t6, .int .u64 t7] 29)).alloc (Obj.cells #[.int .u64 h0, .int .u64 h1, .int .u64 h2, .int .u64 h3, .int .u64 h4, .int .u64 h5, .int .u64 h6, .int .u64 h7] 27)).alloc (Obj.cells #[.int .u64 0, .int .u64 0, .int .u64 0, .int .u64 0, .int .u64 0, .int .u64 0, .int .u64 0, .int .u64 0] 27)) = W at *
  replace hv := hv.later bel
  go_wp2_with fail
  refine (r7_Sched hv hB l).mono ?_
  rintro e w1 ⟨wv, rfl, hown, hb⟩
  rw [HW.out] at hown
  replace B0 := B0.later hb
  replace B1 := B1.later hb
  replace B2 := B2.later hb
  have bw := bel.size
  replace bel := below_step bel hb
  clear hb hv
  obtain ⟨g, cap, cur, rfl, hg, BG, hcur⟩ := row_u64 hown (by decide)
  have HG : Hid (∀ j, j < 80 → cur[j]? = some (.int .u64 (W0.getD j 0))) := hcur
  clear hcur hown
  have lg := BG.lt
  have l1 := B1.lt
  have l2 := B2.lt
  have c0 := B1.cell 0 _ rfl
  have c1 := B1.cell 1 _ rfl
  have c2 := B1.cell 2 _ rfl
  have c3 := B1.cell 3 _ rfl
  have c4 := B1.cell 4 _ rfl
  have c5 := B1.cell 5 _ rfl
  have c6 := B1.cell 6 _ rfl
  have c7 := B1.cell 7 _ rfl
  replace B0 := B0.alloc (.cells [.int .u64 h0, .int .u64 h1, .int .u64 h2, .int .u64 h3, .int .u64 h4, .int .u64 h5, .int .u64 h6, .int .u64 h7].toArray 27)
  replace B1 := B1.alloc (.cells [.int .u64 h0, .int .u64 h1, .int .u64 h2, .int .u64 h3, .int .u64 h4, .int .u64 h5, .int .u64 h6, .int .u64 h7].toArray 27)
  replace B2 := B2.alloc (.cells [.int .u64 h0, .int .u64 h1, .int .u64 h2, .int .u64 h3, .int .u64 h4, .int .u64 h5, .int .u64 h6, .int .u64 h7].toArray 27)
  replace BG := BG.alloc (.cells [.int .u64 h0, .int .u64 h1, .int .u64 h2, .int .u64 h3, .int .u64 h4, .int .u64 h5, .int .u64 h6, .int .u64 h7].toArray 27)
  have BV := Blk.new w1 [.int .u64 h0, .int .u64 h1, .int .u64 h2, .int .u64 h3, .int .u64 h4, .int .u64 h5, .int .u64 h6, .int .u64 h7] 27 w1.heap.size rfl
  replace bel := below_alloc (o := .cells [.int .u64 h0, .int .u64 h1, .int .u64 h2, .int .u64 h3, .int .u64 h4, .int .u64 h5, .int .u64 h6, .int .u64 h7].toArray 27) bel
  have lw : ∀ z, z < w1.heap.size → z ≠ w1.heap.size := fun z h => Nat.ne_of_lt h
  go_wp2_with fail
  obtain ⟨bv, hbv⟩ : ∃ b, b = w1.heap.size := ⟨_, rfl⟩
  clear lw c0 c1 c2 c3 c4 c5 c6 c7
  generalize w1.alloc (Obj.cells #[.int .u64 h0, .int .u64 h1, .int .u64 h2, .int .u64 h3, .int .u64 h4, .int .u64 h5, .int .u64 h6, .int .u64 h7] 27) = W2 at *
  rw [← hbv] at BV l1 l2 lg ⊢
  clear hbv
  go_loopw [9] (fun iv wx => ∃ k : Nat, k ≤ 80 ∧ iv = .int .i64 k ∧ Blk wx bv (us (rndsN K [h0, h1, h2, h3, h4, h5, h6, h7] W0 k)) ∧ Blk wx (w.heap.size) [.slice (some ⟨kb, 0, none⟩) 80 kc, .int .u64 t0, .int .u64 t1, .int .u64 t2, .int .u64 t3, .int .u64 t4, .int .u64 t5, .int .u64 t6, .int .u64 t7] ∧ Blk wx (w.heap.size + 1) [.int .u64 h0, .int .u64 h1, .int .u64 h2, .int .u64 h3, .int .u64 h4, .int .u64 h5, .int .u64 h6, .int .u64 h7] ∧ Blk wx (w.heap.size + 1 + 1) [.int .u64 0, .int .u64 0, .int .u64 0, .int .u64 0, .int .u64 0, .int .u64 0, .int .u64 0, .int .u64 0] ∧ Blk wx g cur ∧ Below w.heap.size w wx) (fun iv _ => 80 - (intOf iv).toNat)
  case atStart => exact ⟨0, by omega, rfl, BV, B0, B1, B2, BG, bel⟩
  case round =>
    clear BV B0 B1 B2 BG bel
    obtain ⟨k, hk, rfl, BV, B0, B1, B2, BG, bel⟩ := hrel
    obtain ⟨x0, x1, x2, x3, x4, x5, x6, x7, hx⟩ := eight (rndsN_len (K := K) (H := [h0, h1, h2, h3, h4, h5, h6, h7]) (W := W0) rfl k)
    by_cases hlt : k < 80
    · have HS : Hid (rndsN K [h0, h1, h2, h3, h4, h5, h6, h7] W0 (k + 1) = roundN (rndsN K [h0, h1, h2, h3, h4, h5, h6, h7] W0 k) (K.getD k 0) (W0.getD k 0)) := rfl
      rw [hx] at BV HS
      simp only [us, List.map_cons, List.map_nil] at BV
      clear hx
      have g1 : (k : Int) < 80 := by omega
      have g2 : (0 : Int) ≤ (k : Int) := by omega
      have gk : IntKind.i64.wrap ((k : Int) + 1) = (k : Int) + 1 := by rw [IntKind.wrap_i64]; omega
      have ck := HKc.out k hlt
      have cw := HG.out k hlt
      obtain ⟨kk, hkk⟩ : ∃ x, K.getD k 0 = x := ⟨_, rfl⟩
      obtain ⟨ww, hww⟩ : ∃ x, W0.getD k 0 = x := ⟨_, rfl⟩
      rw [hkk] at ck HS
      rw [hww] at cw HS
      clear hkk hww
      obtain ⟨y0, y1, y2, y3, y4, y5, y6, y7, hy⟩ := eight (roundN_len (V := [x0, x1, x2, x3, x4, x5, x6, x7]) rfl kk ww)
      rw [hy] at HS
      have HY : Hid (roundN [x0, x1, x2, x3, x4, x5, x6, x7] kk ww = [y0, y1, y2, y3, y4, y5, y6, y7]) := hy
      clear hy
      go_upto_region 6 with fail
      obtain ⟨S1, hS1, KL1, KA1, KD1, KS1, KQ1, KN1, KB1, KM1, KR1⟩ := held3 (w0 := w) (W := wr) [(w.heap.size, [.slice (some ⟨kb, 0, none⟩) 80 kc, .int .u64 t0, .int .u64 t1, .int .u64 t2, .int .u64 t3, .int .u64 t4, .int .u64 t5, .int .u64 t6, .int .u64 t7]), (w.heap.size + 1, [.int .u64 h0, .int .u64 h1, .int .u64 h2, .int .u64 h3, .int .u64 h4, .int .u64 h5, .int .u64 h6, .int .u64 h7]), (w.heap.size + 1 + 1, [.int .u64 0, .int .u64 0, .int .u64 0, .int .u64 0, .int .u64 0, .int .u64 0, .int .u64 0, .int .u64 0]), (g, cur)] (by
        intro b X h
        simp only [List.mem_cons, List.not_mem_nil, or_false, Prod.mk.injEq] at h
        rcases h with ⟨rfl, rfl⟩ | ⟨rfl, rfl⟩ | ⟨rfl, rfl⟩ | ⟨rfl, rfl⟩
        · exact B0
        · exact B1
        · exact B2
        · exact BG) bel
      have r0 : ∀ wx, Hd S1 wx → wx.cell? ⟨w.heap.size, 0, none⟩ = some (.slice (some ⟨kb, 0, none⟩) 80 kc) := fun wx h => (KM1.out wx _ _ h (List.Mem.head _)).cell 0 _ rfl
      have rk : ∀ wx, Hd S1 wx → wx.cell? ⟨kb, k, none⟩ = some (.int .u64 kk) := fun wx h => cell_later ck (KB1.out wx h)
      have rw_ : ∀ wx, Hd S1 wx → wx.cell? ⟨g, k, none⟩ = some (.int .u64 ww) := fun wx h => (KM1.out wx g cur h (List.Mem.tail _ (List.Mem.tail _ (List.Mem.tail _ (List.Mem.head _))))).cell k _ cw
      have mq : ∀ c X, (c, X) ∈ [((w.heap.size : Nat), ([.slice (some ⟨kb, 0, none⟩) 80 kc, .int .u64 t0, .int .u64 t1, .int .u64 t2, .int .u64 t3, .int .u64 t4, .int .u64 t5, .int .u64 t6, .int .u64 t7] : List Value)), ((w.heap.size + 1 : Nat), ([.int .u64 h0, .int .u64 h1, .int .u64 h2, .int .u64 h3, .int .u64 h4, .int .u64 h5, .int .u64 h6, .int .u64 h7] : List Value)), ((w.heap.size + 1 + 1 : Nat), ([.int .u64 0, .int .u64 0, .int .u64 0, .int .u64 0, .int .u64 0, .int .u64 0, .int .u64 0, .int .u64 0] : List Value)), (g, cur)] → c ≠ bv := by
        intro c X h
        simp only [List.mem_cons, List.not_mem_nil, or_false, Prod.mk.injEq] at h
        omega
      have bsz := bel.size
      clear B0 B1 B2 BG bel KS1 KR1 KA1 KN1
      refine wp_region_noPanic ?_
      refine wp_region_held_drew (S := Hd S1) (by kernel_rfl) (KD1.out _ hS1) (fun hHeld => ?_)
      clear hS1
      replace BV := BV.drew
      generalize World.drew _ = wd at *
      refine wpAnyH_take (i := 1) (v := ?_) rfl (by kernel_rfl) (by kernel_rfl) (by kernel_rfl) (fun _ _ _ h => h) (Or.inl ⟨by rfl, ?_⟩) (by assumption) ?_
      rotate_left
      · intro w hSw
        go_simp
        with_reducible rfl
      try simp only [Act.put, List.setIfInBounds_toArray, List.set_cons_zero, List.set_cons_succ]
      refine wpAnyH_take (i := 2) (v := ?_) rfl (by kernel_rfl) (by kernel_rfl) (by kernel_rfl) (fun _ _ _ h => h) (Or.inl ⟨by rfl, ?_⟩) (by assumption) ?_
      rotate_left
      · intro w hSw
        go_simp
        with_reducible rfl
      try simp only [Act.put, List.setIfInBounds_toArray, List.set_cons_zero, List.set_cons_succ]
      refine wpAnyH_take (i := 3) (v := ?_) rfl (by kernel_rfl) (by kernel_rfl) (by kernel_rfl) (fun _ _ _ h => h) (Or.inl ⟨by rfl, ?_⟩) (by assumption) ?_
      rotate_left
      · intro w hSw
        go_simp
        with_reducible rfl
      try simp only [Act.put, List.setIfInBounds_toArray, List.set_cons_zero, List.set_cons_succ]
      refine wpAnyH_take (i := 4) (v := ?_) rfl (by kernel_rfl) (by kernel_rfl) (by kernel_rfl) (fun _ _ _ h => h) (Or.inl ⟨by rfl, ?_⟩) (by assumption) ?_
      rotate_left
      · intro w hSw
        go_simp
        with_reducible rfl
      try simp only [Act.put, List.setIfInBounds_toArray, List.set_cons_zero, List.set_cons_succ]
      refine wpAnyH_take (i := 5) (v := ?_) rfl (by kernel_rfl) (by kernel_rfl) (by kernel_rfl) (fun _ _ _ h => h) (Or.inl ⟨by rfl, ?_⟩) (by assumption) ?_
      rotate_left
      · intro w hSw
        go_simp
        with_reducible rfl
      try simp only [Act.put, List.setIfInBounds_toArray, List.set_cons_zero, List.set_cons_succ]
      refine wpAnyH_take (i := 6) (v := ?_) rfl (by kernel_rfl) (by kernel_rfl) (by kernel_rfl) (fun _ _ _ h => h) (Or.inl ⟨by rfl, ?_⟩) (by assumption) ?_
      rotate_left
      · intro w hSw
        go_simp
        with_reducible rfl
      try simp only [Act.put, List.setIfInBounds_toArray, List.set_cons_zero, List.set_cons_succ]
      refine wpAnyH_take (i := 7) (v := ?_) rfl (by kernel_rfl) (by kernel_rfl) (by kernel_rfl) (fun _ _ _ h => h) (Or.inl ⟨by rfl, ?_⟩) (by assumption) ?_
      rotate_left
      · intro w hSw
        go_simp
        with_reducible rfl
      try simp only [Act.put, List.setIfInBounds_toArray, List.set_cons_zero, List.set_cons_succ]
      refine wpAnyH_take (i := 8) (v := ?_) rfl (by kernel_rfl) (by kernel_rfl) (by kernel_rfl) (fun _ _ _ h => h) (Or.inl ⟨by rfl, ?_⟩) (by assumption) ?_
      rotate_left
      · intro w hSw
        go_simp
        with_reducible rfl
      try simp only [Act.put, List.setIfInBounds_toArray, List.set_cons_zero, List.set_cons_succ]
      refine wpAnyH_take (i := 9) (v := ?_) rfl (by kernel_rfl) (by kernel_rfl) (by kernel_rfl) (fun _ _ _ h => h) (Or.inl ⟨by rfl, ?_⟩) (by assumption) ?_
      rotate_left
      · intro w hSw
        go_simp
        with_reducible rfl
      try simp only [Act.put, List.setIfInBounds_toArray, List.set_cons_zero, List.set_cons_succ]
      clear r0 rk rw_
      refine wpAnyH_ready (rs := [0]) (by kernel_rfl) (by simp) ?_
      refine AllReadyH.cons rfl (fun K hK => ?_) ?_
      · have lts := BV.lt
        have e0 := BV.cell 0 _ rfl; have i0 := BV.frozen 0; have e1 := BV.cell 1 _ rfl; have i1 := BV.frozen 1; have e2 := BV.cell 2 _ rfl; have i2 := BV.frozen 2; have e3 := BV.cell 3 _ rfl; have i3 := BV.frozen 3; have e4 := BV.cell 4 _ rfl; have i4 := BV.frozen 4; have e5 := BV.cell 5 _ rfl; have i5 := BV.frozen 5; have e6 := BV.cell 6 _ rfl; have i6 := BV.frozen 6; have e7 := BV.cell 7 _ rfl; have i7 := BV.frozen 7
        go_simp
        refine hK.out _ _ ?_ (fun hHeld2 => ?_)
        · exact hHeld
        · clear hK K hHeld
          have hHeld := hHeld2
          clear hHeld2
          try simp only [Act.put, List.setIfInBounds_toArray, List.set_cons_zero, List.set_cons_succ]
          clear lts e0 i0 e1 i1 e2 i2 e3 i3 e4 i4 e5 i5 e6 i6 e7 i7
          refine wpAnyH_ready (rs := [10]) (by kernel_rfl) (by simp) ?_
          refine AllReadyH.cons rfl (fun K hK => ?_) ?_
          · go_simp
            go_fit (r7_RoundL HY.out)
            rintro e w' ⟨rfl, hb⟩
            refine hK.out _ _ ?_ (fun hHeld2 => ?_)
            · exact KL1.out _ _ hHeld hb
            · clear hK K hHeld
              have hHeld := hHeld2
              clear hHeld2
              try simp only [Act.put, List.setIfInBounds_toArray, List.set_cons_zero, List.set_cons_succ]
              replace BV := BV.later hb
              clear hb
              refine wpAnyH_ready (rs := [11]) (by kernel_rfl) (by simp) ?_
              refine AllReadyH.cons rfl (fun K hK => ?_) ?_
              · have lts := BV.lt
                have e0 := BV.cell 0 _ rfl; have i0 := BV.frozen 0; have e1 := BV.cell 1 _ rfl; have i1 := BV.frozen 1; have e2 := BV.cell 2 _ rfl; have i2 := BV.frozen 2; have e3 := BV.cell 3 _ rfl; have i3 := BV.frozen 3; have e4 := BV.cell 4 _ rfl; have i4 := BV.frozen 4; have e5 := BV.cell 5 _ rfl; have i5 := BV.frozen 5; have e6 := BV.cell 6 _ rfl; have i6 := BV.frozen 6; have e7 := BV.cell 7 _ rfl; have i7 := BV.frozen 7
                go_simp
                refine hK.out _ _ ?_ (fun hHeld2 => ?_)
                · exact (KQ1.out _ _ _ _ (KQ1.out _ _ _ _ (KQ1.out _ _ _ _ (KQ1.out _ _ _ _ (KQ1.out _ _ _ _ (KQ1.out _ _ _ _ (KQ1.out _ _ _ _ (KQ1.out _ _ _ _ hHeld (Or.inr mq) (by omega)) (Or.inr mq) (by omega)) (Or.inr mq) (by omega)) (Or.inr mq) (by omega)) (Or.inr mq) (by omega)) (Or.inr mq) (by omega)) (Or.inr mq) (by omega)) (Or.inr mq) (by omega))
                · clear hK K hHeld
                  have hHeld := hHeld2
                  clear hHeld2
                  try simp only [Act.put, List.setIfInBounds_toArray, List.set_cons_zero, List.set_cons_succ]
                  clear lts e0 i0 e1 i1 e2 i2 e3 i3 e4 i4 e5 i5 e6 i6 e7 i7
                  replace BV := BV.on_put8 hHeld
                  refine wpAnyH_done (by kernel_rfl) ?_ _
                  refine NoPanic.normal ?_
                  have B0 := KM1.out _ (w.heap.size) _ hHeld (List.Mem.head _)
                  have B1 := KM1.out _ (w.heap.size + 1) _ hHeld (List.Mem.tail _ (List.Mem.head _))
                  have B2 := KM1.out _ (w.heap.size + 1 + 1) _ hHeld (List.Mem.tail _ (List.Mem.tail _ (List.Mem.head _)))
                  have BG := KM1.out _ g cur hHeld (List.Mem.tail _ (List.Mem.tail _ (List.Mem.tail _ (List.Mem.head _))))
                  have bel := KB1.out _ hHeld
                  clear hHeld mq KL1 KD1 KQ1 KB1 KM1
                  generalize World.setCell _ _ _ = w9 at *
                  go_wp2_with fail
                  go_roundw
                  case rel => exact ⟨k + 1, by omega, by go_num, by rw [HS.out]; exact BV, B0, B1, B2, BG, bel⟩
                  case measure => simp [intOf]; omega
              exact AllReadyH.nil
          exact AllReadyH.nil
      exact AllReadyH.nil
    · have hk80 : k = 80 := by omega
      subst hk80
      clear hx
      obtain ⟨A, hA⟩ : ∃ A, rndsN K [h0, h1, h2, h3, h4, h5, h6, h7] W0 80 = A := ⟨_, rfl⟩
      have lA : A.length = 8 := by rw [← hA]; exact rndsN_len rfl 80
      have HA : Hid (sumsN A [h0, h1, h2, h3, h4, h5, h6, h7] 8 = stepN K [h0, h1, h2, h3, h4, h5, h6, h7] B) := by show _ = _; unfold stepN; rw [HW.out, hA]
      rw [hA, ← sumsN_0 (H := [h0, h1, h2, h3, h4, h5, h6, h7]) lA] at BV
      clear hA
      have g1 : ¬ ((80 : Nat) : Int) < 80 := by omega
      go_wp2_with fail
      go_loopw [10] (fun iv wx => ∃ i : Nat, i ≤ 8 ∧ iv = .int .i64 i ∧ Blk wx bv (us (sumsN A [h0, h1, h2, h3, h4, h5, h6, h7] i)) ∧ Blk wx (w.heap.size + 1) [.int .u64 h0, .int .u64 h1, .int .u64 h2, .int .u64 h3, .int .u64 h4, .int .u64 h5, .int .u64 h6, .int .u64 h7] ∧ Blk wx (w.heap.size + 1 + 1) [.int .u64 0, .int .u64 0, .int .u64 0, .int .u64 0, .int .u64 0, .int .u64 0, .int .u64 0, .int .u64 0] ∧ Below w.heap.size w wx) (fun iv _ => 8 - (intOf iv).toNat)
      case atStart => exact ⟨0, by omega, rfl, BV, B1, B2, bel⟩
      case round =>
        clear BV B0 B1 B2 BG bel
        obtain ⟨i, hi, rfl, BV, B1, B2, bel⟩ := hrel
        by_cases hil : i < 8
        · have g1 : (i : Int) < 8 := by omega
          have g2 : (0 : Int) ≤ (i : Int) := by omega
          have g3 : (i : Int).toNat = i := by omega
          have gi : IntKind.i64.wrap ((i : Int) + 1) = (i : Int) + 1 := by rw [IntKind.wrap_i64]; omega
          have cv := BV.cell i _ (us_get _ i (by rw [sumsN_len]; exact hil))
          rw [sumsN_get _ _ _ hil] at cv
          have fv := BV.frozen i
          have chh := B1.cell i _ (us_get [h0, h1, h2, h3, h4, h5, h6, h7] i hil)
          have HS : Hid _ := sumsN_set A [h0, h1, h2, h3, h4, h5, h6, h7] i
          obtain ⟨a, ha⟩ : ∃ x, A.getD i 0 = x := ⟨_, rfl⟩
          obtain ⟨hh, hhh⟩ : ∃ x, ([h0, h1, h2, h3, h4, h5, h6, h7] : List Int).getD i 0 = x := ⟨_, rfl⟩
          rw [ha] at cv HS
          rw [hhh] at chh HS
          have wv : IntKind.u64.wrap (a + hh) = (a + hh) % 18446744073709551616 := IntKind.wrap_u64 _
          obtain ⟨z, hz⟩ : ∃ z, (a + hh) % 18446744073709551616 = z := ⟨_, rfl⟩
          rw [hz] at wv HS
          clear ha hhh hz
          have lv := BV.lt
          have lh := B1.lt
          go_upto_region 10 with fail
          go_region
          all_goals go_wp2_with fail
          all_goals go_roundw
          case rel => exact ⟨i + 1, by omega, by go_num, by have := BV.setu i z; rw [HS.out] at this; exact this.drew, (B1.other _ _ (by show w.heap.size + 1 ≠ bv; omega)).drew, (B2.other _ _ (by show w.heap.size + 1 + 1 ≠ bv; omega)).drew, (bel.setCell (by show w.heap.size ≤ bv; omega) _).drew⟩
          case measure => simp [intOf]; omega
        · have hi8 : i = 8 := by omega
          subst hi8
          rw [HA.out] at BV
          have ls := stepN_len K [h0, h1, h2, h3, h4, h5, h6, h7] B
          obtain ⟨y0, y1, y2, y3, y4, y5, y6, y7, hy⟩ := eight ls
          rw [hy] at BV
          have HYS : Hid _ := hy
          simp only [us, List.map_cons, List.map_nil] at BV
          clear ls hy
          have g1 : ¬ ((8 : Nat) : Int) < 8 := by omega
          have lv := BV.lt
          have lr := B2.lt
          have e0 := BV.cell 0 _ rfl
          have e1 := BV.cell 1 _ rfl
          have e2 := BV.cell 2 _ rfl
          have e3 := BV.cell 3 _ rfl
          have e4 := BV.cell 4 _ rfl
          have e5 := BV.cell 5 _ rfl
          have e6 := BV.cell 6 _ rfl
          have e7 := BV.cell 7 _ rfl
          have d0 := B2.cell 0 _ rfl; have f0 := B2.frozen 0; have d1 := B2.cell 1 _ rfl; have f1 := B2.frozen 1; have d2 := B2.cell 2 _ rfl; have f2 := B2.frozen 2; have d3 := B2.cell 3 _ rfl; have f3 := B2.frozen 3; have d4 := B2.cell 4 _ rfl; have f4 := B2.frozen 4; have d5 := B2.cell 5 _ rfl; have f5 := B2.frozen 5; have d6 := B2.cell 6 _ rfl; have f6 := B2.frozen 6; have d7 := B2.cell 7 _ rfl; have f7 := B2.frozen 7
          go_wp2_with fail
          exact bodyPost_ret (v := .agg #[.int .u64 y0, .int .u64 y1, .int .u64 y2, .int .u64 y3, .int .u64 y4, .int .u64 y5, .int .u64 y6, .int .u64 y7]) (by simp [results, Tryd.results30, go_sem, d0, d1, d2, d3, d4, d5, d6, d7]) rfl ⟨by rw [HYS.out]; rfl, below_put8 bel (by omega)⟩

end Go.Proofs.YtbglkbfnhnmodaaDoor
