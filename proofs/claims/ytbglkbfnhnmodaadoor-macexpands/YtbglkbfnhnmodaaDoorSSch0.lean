/- The program's schedule: a block's words. -/
import Derived.Test.YtbglkbfnhnmodaaDoorRows
import Derived.Test.YtbglkbfnhnmodaaDoorSSched
import Derived.Test.YtbglkbfnhnmodaaDoorSRot
import Derived.Test.YtbglkbfnhnmodaaDoorSWord
import Derived.BigQuiet
import Derived.Deep.QuietTactic
import Derived.Deep.WholeRow
import Derived.Deep.RegionHeld3
import Derived.Deep.DeepCutAuto
import Derived.Deep.DeepFit
namespace Go.Proofs.YtbglkbfnhnmodaaDoor
open Go.RowKit

theorem zero_80 : Hid (∀ w : World, (zeroValue 65).run Tryd.prog w = .ok (.agg (us (List.replicate 80 0)).toArray) w) := fun w => by kernel_rfl
theorem size_80 : (Tryd.prog.info? 65).map (·.size) = some 80 := by kernel_rfl
theorem us_ones (A : List Int) : ((us A).toArray).all (·.oneCell') = true := by
  rw [Array.all_eq_true_iff_forall_mem]
  intro v hv
  simp only [us, List.mem_toArray, List.mem_map] at hv
  obtain ⟨x, _, rfl⟩ := hv
  rfl
theorem Blk.at_ {w : World} {b : Nat} {cs : List Value} (h : Blk w b cs) (j : Nat) (v : Value) (hc : w.cell? ⟨b, j, none⟩ = some v) : cs[j]? = some v := by
  cases e : cs[j]? with
  | none =>
    obtain ⟨t, h⟩ := h
    rw [cell_of_row _ _ j _ t (0, 0) h] at hc
    simp [e] at hc
  | some u =>
    have := h.cell j u e
    rw [this] at hc
    exact hc
/-- two cells of a block that is written at a third place -/
theorem two_cells {W : World} {g i j k : Nat} {X : List Value} {p q : Value} (hp : X[i]? = some p) (hq : X[j]? = some q) (hi : i ≠ k) (hj : j ≠ k) (hB : Blk W g X) :
    ∃ S : World → Prop, Hd S W ∧ Hid (∀ wx, Hd S wx → Hd S wx.drew) ∧ Hid (∀ wx y, Hd S wx → Hd S (wx.setCell ⟨g, k, none⟩ y)) ∧ (∀ wx, Hd S wx → wx.cell? ⟨g, i, none⟩ = some p) ∧ (∀ wx, Hd S wx → wx.cell? ⟨g, j, none⟩ = some q) := by
  refine ⟨fun wx => ∃ Y : List Value, Blk wx g Y ∧ Y[i]? = some p ∧ Y[j]? = some q, ⟨X, hB, hp, hq⟩, ?_, ?_, ?_, ?_⟩
  · rintro wx ⟨Y, h, h1, h2⟩
    exact ⟨Y, h.drew, h1, h2⟩
  · rintro wx y ⟨Y, h, h1, h2⟩
    exact ⟨_, h.set k y, by rw [List.getElem?_set_ne hi.symm]; exact h1, by rw [List.getElem?_set_ne hj.symm]; exact h2⟩
  · rintro wx ⟨Y, h, h1, h2⟩
    exact h.cell i p h1
  · rintro wx ⟨Y, h, h1, h2⟩
    exact h.cell j q h2
/-- k words of the schedule, then noughts -/
def schZ (B : List Int) (k : Nat) : List Int := schN B k ++ List.replicate (80 - k) 0
theorem schZ_len {B : List Int} {k : Nat} (h : k ≤ 80) : (schZ B k).length = 80 := by
  rw [schZ, List.length_append, schN_len, List.length_replicate]; omega
theorem schZ_get {B : List Int} {k j : Nat} (h : j < k) : (schZ B k).getD j 0 = (schN B k).getD j 0 := by
  rw [schZ, List.getD_eq_getElem?_getD, List.getElem?_append_left (by rw [schN_len]; exact h), ← List.getD_eq_getElem?_getD]
theorem schZ_set {B : List Int} {k : Nat} (h : k < 80) : (schZ B k).set k (nxN B (schN B k) k) = schZ B (k + 1) := by
  rw [schZ, schZ, List.set_append_right _ _ (by rw [schN_len]; exact Nat.le_refl _), schN_len, show 80 - k = (80 - (k + 1)) + 1 by omega, List.replicate_succ, Nat.sub_self, List.set_cons_zero, schN, List.append_assoc]
  rfl
theorem schZ_80 (B : List Int) : schZ B 80 = schN B 80 := List.append_nil _
theorem schN_w64 {B : List Int} (hB : byt B) : ∀ k, ∀ j, w64 ((schN B k).getD j 0)
  | 0, _ => ⟨by simp [schN], by simp [schN]⟩
  | k + 1, j => by
    rw [schN]
    by_cases h : j < k
    · rw [List.getD_eq_getElem?_getD, List.getElem?_append_left (by rw [schN_len]; exact h), ← List.getD_eq_getElem?_getD]
      exact schN_w64 hB k j
    · rw [List.getD_eq_getElem?_getD, List.getElem?_append_right (by rw [schN_len]; omega), schN_len]
      by_cases h2 : j = k
      · subst h2
        rw [Nat.sub_self]
        show w64 (nxN B (schN B j) j)
        unfold nxN
        split
        · have := wdN_bd hB j 8
          exact ⟨this.1, Int.lt_of_lt_of_le this.2 (by decide)⟩
        · exact ⟨Int.emod_nonneg _ (by decide), Int.emod_lt_of_pos _ (by decide)⟩
      · rw [List.getElem?_eq_none (by simp; omega)]
        exact ⟨by decide, by decide⟩

set_option linter.unusedSimpArgs false in
set_option maxRecDepth 100000 in
set_option maxHeartbeats 2000000 in
theorem con_sched0 {v : Value} {B : List Int} {w : World} (h : Bs w v B) (hB : byt B) (l : B.length = 128) :
    Calls Tryd.prog 39 #[v] w fun e w' => e = .returned (.agg (us (schN B 80)).toArray) ∧ Below w.heap.size w w' := by
  obtain ⟨ao, cap, rfl, h1, h2, h3⟩ := h
  rw [l] at h3 h2 ⊢
  obtain ⟨b, o, rfl, hb0, hc0⟩ := h3 (by omega)
  have HC : Hid _ := hc0
  have HB : Hid _ := hB
  clear hc0 h3 hB
  unfold maxLen at h1
  have hz := zero_80.out
  have R0 := (Blk.new w (us (List.replicate 80 0)) 65 w.heap.size rfl).alloc (.cells (us (List.replicate 80 0)).toArray 65)
  have V0 := Blk.new (w.alloc (.cells (us (List.replicate 80 0)).toArray 65)) (us (List.replicate 80 0)) 65 (w.heap.size + 1) (by simp)
  have bel : Below w.heap.size w ((w.alloc (.cells (us (List.replicate 80 0)).toArray 65)).alloc (.cells (us (List.replicate 80 0)).toArray 65)) := (((Below.refl _ _).alloc (Nat.le_refl _) _).alloc (by simp) _)
  generalize (us (List.replicate 80 0)).toArray = cs at hz bel R0 V0
  go_enter Tryd.func39, Tryd.ntmps39
  go_wp2_with fail
  have l0 : (us (List.replicate 80 (0 : Int))).toArray.size = 80 := rfl
  clear hz
  obtain ⟨W, hW⟩ : ∃ z, z = (w.alloc (Obj.cells cs 65)).alloc (Obj.cells cs 65) := ⟨_, rfl⟩
  rw [← hW] at R0 V0 bel ⊢
  clear hW l0
  go_loopw [8] (fun iv wx => ∃ k : Nat, k ≤ 16 ∧ iv = .int .i64 k ∧ Blk wx (w.heap.size + 1) (us (schZ B k)) ∧ Blk wx w.heap.size (us (List.replicate 80 0)) ∧ Below w.heap.size w wx) (fun iv _ => 16 - (intOf iv).toNat)
  case atStart => exact ⟨0, by omega, rfl, V0, R0, bel⟩
  case round =>
    clear V0 R0 bel
    obtain ⟨k, hk, rfl, V, R, bel⟩ := hrel
    by_cases hlt : k < 16
    · have g1 : (k : Int) < 16 := by omega
      have g2 : (0 : Int) ≤ (k : Int) := by omega
      have g3 : (k : Int) < 80 := by omega
      have w1 : IntKind.i64.wrap ((k : Int) * 8) = 8 * (k : Int) := by rw [IntKind.wrap_i64]; omega
      have g4 : (0 : Int) ≤ 8 * (k : Int) := by omega
      have g5 : 8 * (k : Int) ≤ 128 := by omega
      have g6 : (8 * (k : Int)).toNat = 8 * k := by omega
      have g7 : ¬ cap = 8 * k := by omega
      have HX : Hid (nxN B (schN B k) k = wdN B k 8) := by show _ = _; unfold nxN; rw [if_pos hlt]
      have hcw : Hid (∀ j, j < 8 → wr.cell? ⟨b, o + 8 * k + j, none⟩ = some (.int .u8 (B.getD (8 * k + j) 0))) := fun j hj => by
        rw [Nat.add_assoc]
        exact (bel.cell (p := ⟨b, o + (8 * k + j), none⟩) hb0).trans (HC.out (8 * k + j) (by omega))
      have lv := V.lt
      go_wp2_with fail
      refine (con_word HB.out (by omega) hcw.out).mono ?_
      rintro e w1 ⟨rfl, hb⟩
      replace V := V.later hb
      replace R := R.later hb
      replace bel := below_step bel hb
      clear hb hcw lv
      have lv := V.lt
      have fz := V.frozen k
      have cv := V.cell k _ (us_get _ k (by rw [schZ_len (by omega)]; omega))
      rw [← HX.out]
      have HV := V.setu k (nxN B (schN B k) k)
      rw [schZ_set (by omega)] at HV
      replace R := R.other ⟨w.heap.size + 1, k, none⟩ (.int .u64 (nxN B (schN B k) k)) (by show w.heap.size ≠ w.heap.size + 1; omega)
      replace bel := bel.setCell (p := ⟨w.heap.size + 1, k, none⟩) (by show w.heap.size ≤ w.heap.size + 1; omega) (.int .u64 (nxN B (schN B k) k))
      obtain ⟨x, hx⟩ : ∃ x, nxN B (schN B k) k = x := ⟨_, rfl⟩
      rw [hx] at HV R bel ⊢
      clear hx HX V
      go_wp2_with fail
      go_roundw
      case rel => exact ⟨k + 1, by omega, by go_num, HV, R, bel⟩
      case measure => simp [intOf]; omega
    · have HK : Hid (k = 16) := by show k = 16; omega
      have g1 : (16 : Int) ≤ (k : Int) := by omega
      obtain ⟨k0, hk0⟩ : ∃ z, k = z := ⟨_, rfl⟩
      subst hk0
      go_wp2_with fail
      obtain ⟨W1, hW1⟩ : ∃ z, z = wr := ⟨_, rfl⟩
      rw [← hW1] at V R bel ⊢
      clear hW1
      go_loopw [5] (fun iv wx => ∃ k : Nat, 16 ≤ k ∧ k ≤ 80 ∧ iv = .int .i64 k ∧ Blk wx (w.heap.size + 1) (us (schZ B k)) ∧ Blk wx w.heap.size (us (List.replicate 80 0)) ∧ Below w.heap.size w wx) (fun iv _ => 80 - (intOf iv).toNat)
      case atStart => exact ⟨16, by omega, by omega, rfl, by have e := HK.out; rw [e] at V; exact V, R, bel⟩
      case round =>
        clear V R bel
        clear HK
        obtain ⟨k, h16, hk, rfl, V, R, bel⟩ := hrel
        by_cases hlt : k < 80
        · have g1 : (k : Int) < 80 := by omega
          have g2 : (0 : Int) ≤ (k : Int) := by omega
          have HN : Hid (nxN B (schN B k) k = ((schN B k).getD (k - 16) 0 + s0N ((schN B k).getD (k - 15) 0) + (schN B k).getD (k - 7) 0 + s1N ((schN B k).getD (k - 2) 0)) % 18446744073709551616) := by show _ = _; unfold nxN; rw [if_neg (by omega)]
          have ip : IntKind.i64.wrap ((k : Int) - 15) = (k : Int) - 15 := by rw [IntKind.wrap_i64]; omega
          have jp : 0 ≤ (k : Int) - 15 := by omega
          have lp : (k : Int) - 15 < 80 := by omega
          have mp : ((k : Int) - 15).toNat = k - 15 := by omega
          have cp := V.cell (k - 15) _ (us_get _ (k - 15) (by rw [schZ_len hk]; omega))
          rw [schZ_get (show k - 15 < k by omega)] at cp
          have bp : Hid _ := schN_w64 HB.out k (k - 15)
          obtain ⟨p, hp⟩ : ∃ x, (schN B k).getD (k - 15) 0 = x := ⟨_, rfl⟩
          rw [hp] at cp bp HN
          clear hp
          have iq : IntKind.i64.wrap ((k : Int) - 2) = (k : Int) - 2 := by rw [IntKind.wrap_i64]; omega
          have jq : 0 ≤ (k : Int) - 2 := by omega
          have lq : (k : Int) - 2 < 80 := by omega
          have mq : ((k : Int) - 2).toNat = k - 2 := by omega
          have cq := V.cell (k - 2) _ (us_get _ (k - 2) (by rw [schZ_len hk]; omega))
          rw [schZ_get (show k - 2 < k by omega)] at cq
          have bq : Hid _ := schN_w64 HB.out k (k - 2)
          obtain ⟨q, hq⟩ : ∃ x, (schN B k).getD (k - 2) 0 = x := ⟨_, rfl⟩
          rw [hq] at cq bq HN
          clear hq
          have ir : IntKind.i64.wrap ((k : Int) - 16) = (k : Int) - 16 := by rw [IntKind.wrap_i64]; omega
          have jr : 0 ≤ (k : Int) - 16 := by omega
          have lr : (k : Int) - 16 < 80 := by omega
          have mr : ((k : Int) - 16).toNat = k - 16 := by omega
          have cr := V.cell (k - 16) _ (us_get _ (k - 16) (by rw [schZ_len hk]; omega))
          rw [schZ_get (show k - 16 < k by omega)] at cr
          have br : Hid _ := schN_w64 HB.out k (k - 16)
          obtain ⟨r, hr⟩ : ∃ x, (schN B k).getD (k - 16) 0 = x := ⟨_, rfl⟩
          rw [hr] at cr br HN
          clear hr
          have is : IntKind.i64.wrap ((k : Int) - 7) = (k : Int) - 7 := by rw [IntKind.wrap_i64]; omega
          have js : 0 ≤ (k : Int) - 7 := by omega
          have ls : (k : Int) - 7 < 80 := by omega
          have ms : ((k : Int) - 7).toNat = k - 7 := by omega
          have cs := V.cell (k - 7) _ (us_get _ (k - 7) (by rw [schZ_len hk]; omega))
          rw [schZ_get (show k - 7 < k by omega)] at cs
          have bs : Hid _ := schN_w64 HB.out k (k - 7)
          obtain ⟨s, hs⟩ : ∃ x, (schN B k).getD (k - 7) 0 = x := ⟨_, rfl⟩
          rw [hs] at cs bs HN
          clear hs
          have lv := V.lt
          go_upto_region 10 with fail
          go_quiet (((go_at_call 43; exact Calls.quiet_of_same (con_rotm bp.out (by decide) (by decide)))))
          go_upto_region 11 with fail
          replace V := V.drewN nq
          replace R := R.drewN nq
          replace bel := below_dN bel nq
          replace cq : (World.drewN _ nq).cell? _ = _ := cq
          replace cr : (World.drewN _ nq).cell? _ = _ := cr
          replace cs : (World.drewN _ nq).cell? _ = _ := cs
          generalize World.drewN _ nq = wq at *
          clear cp ip jp lp mp
          replace lv := V.lt
          go_quiet (((go_at_call 43; exact Calls.quiet_of_same (con_rotm bq.out (by decide) (by decide)))))
          go_upto_region 12 with fail
          replace V := V.drewN nq
          replace R := R.drewN nq
          replace bel := below_dN bel nq
          replace cr : (World.drewN _ nq).cell? _ = _ := cr
          replace cs : (World.drewN _ nq).cell? _ = _ := cs
          generalize World.drewN _ nq = wq at *
          clear cq iq jq lq mq
          have HP : Hid (s0N p = bits .xor .u64 (bits .xor .u64 (ror p 1) (ror p 8)) (p / 128)) := rfl
          have HQ : Hid (s1N q = bits .xor .u64 (bits .xor .u64 (ror q 19) (ror q 61)) (q / 64)) := rfl
          generalize bits .xor .u64 (bits .xor .u64 (ror p 1) (ror p 8)) (p / 128) = y0 at *
          generalize bits .xor .u64 (bits .xor .u64 (ror q 19) (ror q 61)) (q / 64) = y1 at *
          rw [HP.out, HQ.out] at HN
          clear HP HQ bp bq br bs lv
          obtain ⟨x, hx⟩ : ∃ x, nxN B (schN B k) k = x := ⟨_, rfl⟩
          have HS : Hid ((schZ B k).set k x = schZ B (k + 1)) := by rw [← hx]; exact schZ_set hlt
          have HX : Hid (x = IntKind.u64.wrap (IntKind.u64.wrap (IntKind.u64.wrap (r + y0) + s) + y1)) := by rw [← hx, HN.out]; exact sum4 rfl
          clear hx HN
          obtain ⟨S1, hS1, KD, KQ, rr, rs⟩ := two_cells (k := k) (V.at_ _ _ cr) (V.at_ _ _ cs) (by omega) (by omega) V
          clear cr cs
          have t16 : (16 : Int) ≤ (k : Int) := by omega
          have t7 : (7 : Int) ≤ (k : Int) := by omega
          refine wp_region_noPanic ?_
          refine wp_region_held_drew (S := Hd S1) (by kernel_rfl) (KD.out _ hS1) (fun hHeld => ?_)
          clear hS1
          replace V := V.drew
          replace R := R.drew
          replace bel := bel.drew
          generalize World.drew _ = wd at *
          refine wpAnyH_take (i := 0) (v := ?_) rfl (by kernel_rfl) (by kernel_rfl) (by kernel_rfl) (fun _ _ _ h => h) (Or.inl ⟨by rfl, ?_⟩) (by assumption) ?_
          rotate_left
          · intro w hSw
            go_simp
            with_reducible rfl
          try simp only [Act.put, List.setIfInBounds_toArray, List.set_cons_zero, List.set_cons_succ]
          refine wpAnyH_take (i := 1) (v := ?_) rfl (by kernel_rfl) (by kernel_rfl) (by kernel_rfl) (fun _ _ _ h => h) (Or.inl ⟨by rfl, ?_⟩) (by assumption) ?_
          rotate_left
          · intro w hSw
            go_simp
            with_reducible rfl
          try simp only [Act.put, List.setIfInBounds_toArray, List.set_cons_zero, List.set_cons_succ]
          refine wpAnyH_take (i := 2) (v := ?_) rfl (by kernel_rfl) (by kernel_rfl) (by kernel_rfl) (fun _ _ _ h => h) (Or.inl ⟨by rfl, ?_⟩) (by assumption) ?_
          rotate_left
          · intro w hSw
            go_simp
            with_reducible rfl
          try simp only [Act.put, List.setIfInBounds_toArray, List.set_cons_zero, List.set_cons_succ]
          refine wpAnyH_take (i := 3) (v := ?_) rfl (by kernel_rfl) (by kernel_rfl) (by kernel_rfl) (fun _ _ _ h => h) (Or.inl ⟨by rfl, ?_⟩) (by assumption) ?_
          rotate_left
          · intro w hSw
            go_simp
            with_reducible rfl
          try simp only [Act.put, List.setIfInBounds_toArray, List.set_cons_zero, List.set_cons_succ]
          refine wpAnyH_take (i := 4) (v := ?_) rfl (by kernel_rfl) (by kernel_rfl) (by kernel_rfl) (fun _ _ _ h => h) (Or.inl ⟨by rfl, ?_⟩) (by assumption) ?_
          rotate_left
          · intro w hSw
            go_simp
            with_reducible rfl
          try simp only [Act.put, List.setIfInBounds_toArray, List.set_cons_zero, List.set_cons_succ]
          refine wpAnyH_take (i := 5) (v := ?_) rfl (by kernel_rfl) (by kernel_rfl) (by kernel_rfl) (fun _ _ _ h => h) (Or.inl ⟨by rfl, ?_⟩) (by assumption) ?_
          rotate_left
          · intro w hSw
            go_simp
            with_reducible rfl
          try simp only [Act.put, List.setIfInBounds_toArray, List.set_cons_zero, List.set_cons_succ]
          refine wpAnyH_take (i := 6) (v := ?_) rfl (by kernel_rfl) (by kernel_rfl) (by kernel_rfl) (fun _ _ _ h => h) (Or.inl ⟨by rfl, ?_⟩) (by assumption) ?_
          rotate_left
          · intro w hSw
            go_simp
            with_reducible rfl
          try simp only [Act.put, List.setIfInBounds_toArray, List.set_cons_zero, List.set_cons_succ]
          refine wpAnyH_take (i := 7) (v := ?_) rfl (by kernel_rfl) (by kernel_rfl) (by kernel_rfl) (fun _ _ _ h => h) (Or.inl ⟨by rfl, ?_⟩) (by assumption) ?_
          rotate_left
          · intro w hSw
            go_simp
            with_reducible rfl
          try simp only [Act.put, List.setIfInBounds_toArray, List.set_cons_zero, List.set_cons_succ]
          refine wpAnyH_take (i := 8) (v := ?_) rfl (by kernel_rfl) (by kernel_rfl) (by kernel_rfl) (fun _ _ _ h => h) (Or.inl ⟨by rfl, ?_⟩) (by assumption) ?_
          rotate_left
          · intro w hSw
            go_simp
            with_reducible rfl
          try simp only [Act.put, List.setIfInBounds_toArray, List.set_cons_zero, List.set_cons_succ]
          refine wpAnyH_take (i := 9) (v := ?_) rfl (by kernel_rfl) (by kernel_rfl) (by kernel_rfl) (fun _ _ _ h => h) (Or.inl ⟨by rfl, ?_⟩) (by assumption) ?_
          rotate_left
          · intro w hSw
            go_simp
            with_reducible rfl
          try simp only [Act.put, List.setIfInBounds_toArray, List.set_cons_zero, List.set_cons_succ]
          refine wpAnyH_take (i := 10) (v := ?_) rfl (by kernel_rfl) (by kernel_rfl) (by kernel_rfl) (fun _ _ _ h => h) (Or.inl ⟨by rfl, ?_⟩) (by assumption) ?_
          rotate_left
          · intro w hSw
            go_simp
            with_reducible rfl
          try simp only [Act.put, List.setIfInBounds_toArray, List.set_cons_zero, List.set_cons_succ]
          refine wpAnyH_take (i := 11) (v := ?_) rfl (by kernel_rfl) (by kernel_rfl) (by kernel_rfl) (fun _ _ _ h => h) (Or.inl ⟨by rfl, ?_⟩) (by assumption) ?_
          rotate_left
          · intro w hSw
            go_simp
            with_reducible rfl
          try simp only [Act.put, List.setIfInBounds_toArray, List.set_cons_zero, List.set_cons_succ]
          refine wpAnyH_take (i := 12) (v := ?_) rfl (by kernel_rfl) (by kernel_rfl) (by kernel_rfl) (fun _ _ _ h => h) (Or.inl ⟨by rfl, ?_⟩) (by assumption) ?_
          rotate_left
          · intro w hSw
            go_simp
            with_reducible rfl
          try simp only [Act.put, List.setIfInBounds_toArray, List.set_cons_zero, List.set_cons_succ]
          refine wpAnyH_take (i := 13) (v := ?_) rfl (by kernel_rfl) (by kernel_rfl) (by kernel_rfl) (fun _ _ _ h => h) (Or.inl ⟨by rfl, ?_⟩) (by assumption) ?_
          rotate_left
          · intro w hSw
            go_simp
            with_reducible rfl
          try simp only [Act.put, List.setIfInBounds_toArray, List.set_cons_zero, List.set_cons_succ]
          refine wpAnyH_take (i := 14) (v := ?_) rfl (by kernel_rfl) (by kernel_rfl) (by kernel_rfl) (fun _ _ _ h => h) (Or.inl ⟨by rfl, ?_⟩) (by assumption) ?_
          rotate_left
          · intro w hSw
            go_simp
            with_reducible rfl
          try simp only [Act.put, List.setIfInBounds_toArray, List.set_cons_zero, List.set_cons_succ]
          clear rr rs
          refine wpAnyH_ready (rs := [15]) (by kernel_rfl) (by simp) ?_
          refine AllReadyH.cons rfl (fun K hK => ?_) ?_
          · have lts := V.lt
            have fz := V.frozen k
            have cv := V.cell k _ (us_get _ k (by rw [schZ_len hk]; omega))
            go_simp
            refine hK.out _ _ ?_ (fun hHeld2 => ?_)
            · exact KQ.out _ _ hHeld
            · clear hK K hHeld
              have hHeld := hHeld2
              clear hHeld2
              clear lts fz cv
              try simp only [Act.put, List.setIfInBounds_toArray, List.set_cons_zero, List.set_cons_succ]
              refine wpAnyH_done (by kernel_rfl) ?_ _
              refine NoPanic.normal ?_
              rw [← HX.out] at hHeld ⊢
              have HV := V.setu k x
              rw [HS.out] at HV
              replace R := R.other ⟨w.heap.size + 1, k, none⟩ (.int .u64 x) (by show w.heap.size ≠ w.heap.size + 1; omega)
              replace bel := bel.setCell (p := ⟨w.heap.size + 1, k, none⟩) (by show w.heap.size ≤ w.heap.size + 1; omega) (.int .u64 x)
              clear hHeld V
              generalize World.setCell _ _ _ = w9 at *
              go_wp2_with fail
              go_roundw
              case rel => exact ⟨k + 1, by omega, by omega, by go_num, HV, R, bel⟩
              case measure => simp [intOf]; omega
          exact AllReadyH.nil
        · obtain rfl : k = 80 := by omega
          have g1 : (80 : Int) ≤ ((80 : Nat) : Int) := by omega
          rw [schZ_80] at V
          obtain ⟨tV, hV⟩ := V
          obtain ⟨tR, hR⟩ := R
          have HL : Hid (80 = (us (schN B 80)).toArray.size) := by show 80 = _; simp [schN_len]
          have HO : Hid ((us (List.replicate 80 (0 : Int))).toArray.size = (us (schN B 80)).toArray.size) := by show _ = _; simp [schN_len]
          have H1 : Hid _ := us_ones (schN B 80)
          obtain ⟨ds, hds⟩ : ∃ z, (us (schN B 80)).toArray = z := ⟨_, rfl⟩
          have HD : Hid _ := hds
          rw [hds] at hV HL HO H1
          generalize (us (List.replicate 80 (0 : Int))).toArray = es at hR HO
          clear hds
          go_wp2_with (first
            | (refine wpList_load_row rfl 65 _ rfl (w.heap.size + 1) rfl tV ds _ _ hV Tryd.underlying65 rfl (by rw [size_80, HL.out]) ?_)
            | (refine wpList_store_row rfl 65 _ _ rfl w.heap.size ds rfl rfl tR es hR (by rw [size_80, HL.out]) HO.out H1.out ?_)
            | fail)
          refine bodyPost_ret (results_cell_row rfl _ _ w.heap.size tR ds (0, 0) _ rfl (setRow_heap _ _ _ _ _ _ hR) Tryd.underlying65 rfl (by rw [size_80, HL.out])) rfl ?_
          exact ⟨by rw [HD.out], below_setRow bel (Nat.le_refl _) _⟩
end Go.Proofs.YtbglkbfnhnmodaaDoor
