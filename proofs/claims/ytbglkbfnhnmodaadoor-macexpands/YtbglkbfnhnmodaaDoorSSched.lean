/- The document's Schedule: a block's words. -/
import Derived.Test.YtbglkbfnhnmodaaDoorRows
import Derived.Test.YtbglkbfnhnmodaaDoorSTurn
import Derived.Test.YtbglkbfnhnmodaaDoorSRound
import Derived.Test.YtbglkbfnhnmodaaDoorFrom
import Derived.Test.YtbglkbfnhnmodaaDoorRefA
import Derived.Deep.RegionHeld3
import Derived.Deep.DeepCutAuto
import Derived.Deep.DeepFit
namespace Go.Proofs.YtbglkbfnhnmodaaDoor
open Go.RowKit

theorem sch_step {B : List Int} {k : Nat} {x : Int} (h : nxN B (schN B k) k = x) : us (schN B k) ++ [.int .u64 x] = us (schN B (k + 1)) := by
  rw [schN, h]; simp [us]

theorem own_later {w w' : World} {base : Nat} {e : TypeId} {v : Value} {n : Nat} {xs : List Value} (h : w.ownsRow base e 1 v n xs) (hb : Below w.heap.size w w') : w'.ownsRow base e 1 v n xs := by
  obtain ⟨hl, h⟩ := h
  rcases h with h | ⟨g, cap, cur, h1, h2, h3, h4⟩
  · exact ⟨hl, .inl h⟩
  · exact ⟨hl, .inr ⟨g, cap, cur, h1, h2, by rw [hb.block g (Array.getElem?_eq_some_iff.1 h3).1]; exact h3, h4⟩⟩
theorem sum4 {r y0 s y1 x : Int} (h : IntKind.u64.wrap (IntKind.u64.wrap (IntKind.u64.wrap (r + y0) + s) + y1) = x) : (r + y0 + s + y1) % 18446744073709551616 = x := by
  rw [← h]
  simp only [IntKind.wrap_u64]
  omega

set_option linter.unusedSimpArgs false in
set_option maxRecDepth 100000 in
set_option maxHeartbeats 2000000 in
theorem r7_Sched {v : Value} {B : List Int} {w : World} (h : Bs w v B) (hB : byt B) (l : B.length = 128) :
    Calls Tryd.prog 37 #[v] w fun e w' => ∃ v', e = .returned v' ∧ w'.ownsRow w.heap.size 26 1 v' 80 (us (schN B 80)) ∧ Below w.heap.size w w' := by
  obtain ⟨i0, hi0, hz0, hz1, hz2⟩ := info_parts info_num
  obtain ⟨ao, cap, rfl, h1, h2, h3⟩ := h
  rw [l] at h3 h2 ⊢
  obtain ⟨b, o, rfl, hb0, hc0⟩ := h3 (by omega)
  have HC : Hid _ := hc0
  have HB : Hid _ := hB
  clear hc0 h3 hB
  unfold maxLen at h1
  go_enter Tryd.func37, Tryd.ntmps37
  go_wp2
  go_loopw [3, 4] (fun o i wr => ∃ k : Nat, k ≤ 80 ∧ i = .int .i64 k ∧ wr.ownsRow w.heap.size 26 1 o k (us (schN B k)) ∧ Below w.heap.size w wr)
    (fun _ i _ => 80 - (intOf i).toNat)
  case atStart => exact ⟨0, by omega, rfl, World.ownsRow_nil _ _ _ _, Below.refl _ _⟩
  case round =>
    obtain ⟨k, hk, rfl, hown, hbel⟩ := hrel
    have hsz := hbel.size
    by_cases hlt : k < 80
    · have g0 : (k : Int) < 80 := by omega
      by_cases h16 : k < 16
      · have g1 : (k : Int) < 16 := by omega
        have HX : Hid (nxN B (schN B k) k = wdN B k 8) := by show _ = _; unfold nxN; rw [if_pos h16]
        go_wp2_with fail
        go_loop [5, 6] (fun xv jv => ∃ j : Nat, j ≤ 8 ∧ jv = .int .i64 j ∧ xv = .int .u64 (wdN B k j)) (fun _ jv => 8 - (intOf jv).toNat)
        case atStart => exact ⟨0, by omega, rfl, rfl⟩
        case round =>
          obtain ⟨j, hj, rfl, rfl⟩ := hrel
          by_cases hjl : j < 8
          · have g2 : (j : Int) < 8 := by omega
            have hc := (hbel.cell (p := ⟨b, o + (8 * k + j), none⟩) hb0).trans (HC.out (8 * k + j) (by omega))
            have yb := HB.out (8 * k + j)
            have xb := wdN_bd HB.out k j
            have HN : Hid (wdN B k (j + 1) = 256 * wdN B k j + B.getD (8 * k + j) 0) := rfl
            have pj : (256 : Int) ^ j ≤ 256 ^ 7 := by
              have : j = 0 ∨ j = 1 ∨ j = 2 ∨ j = 3 ∨ j = 4 ∨ j = 5 ∨ j = 6 ∨ j = 7 := by omega
              rcases this with rfl | rfl | rfl | rfl | rfl | rfl | rfl | rfl <;> decide
            obtain ⟨y, hy⟩ : ∃ y, B.getD (8 * k + j) 0 = y := ⟨_, rfl⟩
            obtain ⟨x, hx⟩ : ∃ x, wdN B k j = x := ⟨_, rfl⟩
            rw [hy] at hc yb HN
            rw [hx] at xb HN ⊢
            have x7 : x < 256 ^ 7 := by omega
            have x0 := xb.1
            clear hx hy xb pj
            have e7 : (256 : Int) ^ 7 = 72057594037927936 := by decide
            rw [e7] at x7
            clear e7
            have w1 : IntKind.u64.wrap (256 * x) = 256 * x := by rw [IntKind.wrap_u64]; omega
            have w2 : IntKind.u64.wrap (256 * x + y) = 256 * x + y := by rw [IntKind.wrap_u64]; omega
            have w3 : IntKind.u64.wrap y = y := by rw [IntKind.wrap_u64]; omega
            have w4 : IntKind.i64.wrap (8 * (k : Int)) = 8 * (k : Int) := by rw [IntKind.wrap_i64]; omega
            have w5 : IntKind.i64.wrap (8 * (k : Int) + (j : Int)) = 8 * (k : Int) + (j : Int) := by rw [IntKind.wrap_i64]; omega
            have g3 : 0 ≤ 8 * (k : Int) + (j : Int) := by omega
            have g4 : 8 * (k : Int) + (j : Int) < 128 := by omega
            have g5 : (8 * (k : Int) + (j : Int)).toNat = 8 * k + j := by omega
            go_wp2
            go_round
            case rel => exact ⟨j + 1, by omega, by go_num, by rw [HN.out]⟩
            case measure => simp [intOf]; omega
          · have g2 : (8 : Int) ≤ (j : Int) := by omega
            have hj8 : j = 8 := by omega
            subst hj8
            rw [← HX.out]
            obtain ⟨x, hx⟩ : ∃ x, nxN B (schN B k) k = x := ⟨_, rfl⟩
            rw [hx]
            have HT : Hid _ := sch_step hx
            clear hx HX
            go_wp2_with (first
              | (at_builtin; refine wpList_append_lies _ (by rfl) _ _ _ (by rfl) w.heap.size 26 i0 _ 1 8 Tryd.underlying25 hi0 hz0 hz1 hz2 rfl (by omega) _ _ _ (by rfl) (hown.alloc _) ⟨wr.heap.size, 0, none⟩ 1 1 [.int .u64 x] (by rfl) (by rfl) (World.news_of_block (cs := #[.int .u64 x]) (t := 26) (fr := (0, 0)) (heap_alloc_new wr _)) (by simp [Value.oneCell']) (by omega) (by unfold maxLen; omega) (by omega) (by simp; omega) (wr.heap.size + 1) (by simp) ?_; intro gg cap1 w1 hown1 hgrow hat hlt1)
              | fail)
            go_roundw
            case rel => exact ⟨k + 1, by omega, by go_num, by rw [HT.out] at hown1; exact hown1, hbel.trans (Below.grown ((Below.refl _ _).alloc (by omega) _) hgrow (by simp; omega) (fun j hj => own_ge hown hj))⟩
            case measure => simp [intOf]; omega
      · have g1 : (16 : Int) ≤ (k : Int) := by omega
        have SLk := Sl.of_own hown
        rcases SLk with ⟨_, h⟩ | ⟨g, c, ho, hc1, hc2, hg, hcells⟩
        · have := schN_len B k; rw [h] at this; simp at this; omega
        · rw [schN_len] at ho hc1 hcells
          subst ho
          obtain ⟨p, hp⟩ : ∃ x, (schN B k).getD (k - 15) 0 = x := ⟨_, rfl⟩
          have cp := hcells (k - 15) (by omega)
          rw [hp] at cp
          have ip : IntKind.i64.wrap ((k : Int) - 15) = (k : Int) - 15 := by rw [IntKind.wrap_i64]; omega
          have jp : 0 ≤ (k : Int) - 15 := by omega
          have lp : (k : Int) - 15 < (k : Int) := by omega
          have np : ((k : Int) - 15).toNat = k - 15 := by omega
          have mp : (15 : Int) ≤ (k : Int) := by omega
          obtain ⟨q, hq⟩ : ∃ x, (schN B k).getD (k - 2) 0 = x := ⟨_, rfl⟩
          have cq := hcells (k - 2) (by omega)
          rw [hq] at cq
          have iq : IntKind.i64.wrap ((k : Int) - 2) = (k : Int) - 2 := by rw [IntKind.wrap_i64]; omega
          have jq : 0 ≤ (k : Int) - 2 := by omega
          have lq : (k : Int) - 2 < (k : Int) := by omega
          have nq : ((k : Int) - 2).toNat = k - 2 := by omega
          have mq : (2 : Int) ≤ (k : Int) := by omega
          obtain ⟨r, hr⟩ : ∃ x, (schN B k).getD (k - 16) 0 = x := ⟨_, rfl⟩
          have cr := hcells (k - 16) (by omega)
          rw [hr] at cr
          have ir : IntKind.i64.wrap ((k : Int) - 16) = (k : Int) - 16 := by rw [IntKind.wrap_i64]; omega
          have jr : 0 ≤ (k : Int) - 16 := by omega
          have lr : (k : Int) - 16 < (k : Int) := by omega
          have nr : ((k : Int) - 16).toNat = k - 16 := by omega
          have mr : (16 : Int) ≤ (k : Int) := by omega
          obtain ⟨s, hs⟩ : ∃ x, (schN B k).getD (k - 7) 0 = x := ⟨_, rfl⟩
          have cs := hcells (k - 7) (by omega)
          rw [hs] at cs
          have is : IntKind.i64.wrap ((k : Int) - 7) = (k : Int) - 7 := by rw [IntKind.wrap_i64]; omega
          have js : 0 ≤ (k : Int) - 7 := by omega
          have ls : (k : Int) - 7 < (k : Int) := by omega
          have ns : ((k : Int) - 7).toNat = k - 7 := by omega
          have ms : (7 : Int) ≤ (k : Int) := by omega
          have HX : Hid (nxN B (schN B k) k = (r + s0N p + s + s1N q) % 18446744073709551616) := by
            show _ = _
            unfold nxN
            rw [if_neg h16, hp, hq, hr, hs]
          clear hp hq hr hs hcells
          go_upto_region 12 with fail
          obtain ⟨S1, hS1, KL1, KA1, KD1, KS1, KQ1, KN1, KB1, KM1, KR1⟩ := held3 (w0 := wr) (W := wr) [] (by intro b X h; simp at h) (Below.refl _ _)
          clear KS1 KQ1 KN1 KM1 KR1 KA1
          have rp : ∀ wx, Hd S1 wx → wx.cell? ⟨g, k - 15, none⟩ = some (.int .u64 p) := fun wx h => cell_later cp (KB1.out wx h)
          have rq : ∀ wx, Hd S1 wx → wx.cell? ⟨g, k - 2, none⟩ = some (.int .u64 q) := fun wx h => cell_later cq (KB1.out wx h)
          go_cut [7] from 9 to 91 (fun u wx => u = .int .u64 (s0N p) ∧ Hd S1 wx)
          case first =>
            go_region_held3 (Hd S1)
              (first
              | with_reducible exact KL1.out _ _ (by assumption) hb
              | with_reducible exact KD1.out _ hS1
              | with_reducible assumption)
              (first
                | (go_at_call 41; go_fit (r7_tn (by decide) (by decide)); rintro e w' ⟨rfl, hb⟩))
            all_goals
              go_wp2_with fail
              go_meet
              exact ⟨rfl, by with_reducible assumption⟩
          case rest =>
            clear hS1
            obtain ⟨rfl, hS1⟩ := hcut
            go_upto_region 13 with fail
            go_cut [8] from 9 to 91 (fun u wx => u = .int .u64 (s1N q) ∧ Hd S1 wx)
            case first =>
              go_region_held3 (Hd S1)
                (first
                | with_reducible exact KL1.out _ _ (by assumption) hb
                | with_reducible exact KD1.out _ hS1
                | with_reducible assumption)
                (first
                  | (go_at_call 41; go_fit (r7_tn (by decide) (by decide)); rintro e w' ⟨rfl, hb⟩))
              all_goals
                go_wp2_with fail
                go_meet
                exact ⟨rfl, by with_reducible assumption⟩
            case rest =>
              clear hS1
              obtain ⟨rfl, hS1⟩ := hcut
              obtain ⟨wz, hwz⟩ : ∃ z, z = wc := ⟨_, rfl⟩
              rw [← hwz] at hS1 ⊢
              clear hwz
              have bz := KB1.out _ hS1
              clear rp rq hS1 KL1 KD1 KB1
              have cr2 := cell_later cr bz
              have cs2 := cell_later cs bz
              have hown2 := own_later hown bz
              have hbel2 := hbel.trans (bz.mono hsz)
              have hsz2 := hbel2.size
              obtain ⟨y0, hy0⟩ : ∃ y, s0N p = y := ⟨_, rfl⟩
              obtain ⟨y1, hy1⟩ : ∃ y, s1N q = y := ⟨_, rfl⟩
              rw [hy0, hy1] at HX
              rw [hy0, hy1]
              clear cp cq cr cs hown hbel hsz hy0 hy1 bz ip jp lp np iq jq lq nq
              obtain ⟨x, hx⟩ : ∃ x, IntKind.u64.wrap (IntKind.u64.wrap (IntKind.u64.wrap (r + y0) + s) + y1) = x := ⟨_, rfl⟩
              have HT : Hid _ := sch_step (HX.out.trans (sum4 hx))
              have Hx : Hid _ := hx
              clear hx HX
              go_upto_region 14 with fail
              obtain ⟨ST, hT⟩ : ∃ S : World → Prop, ∀ w, Hd S w := ⟨fun _ => True, fun _ => trivial⟩
              have cr3 : wz.drew.cell? ⟨g, k - 16, none⟩ = some (.int .u64 r) := cr2
              have cs3 : wz.drew.cell? ⟨g, k - 7, none⟩ = some (.int .u64 s) := cs2
              have hown3 := hown2.drew
              have hbel3 := hbel2.drew
              clear cr2 cs2 hown2 hbel2 hsz2
              refine wp_region_noPanic ?_
              refine wp_region_held_drew (S := Hd ST) (by kernel_rfl) (hT _) (fun hHeld => ?_)
              generalize wz.drew = wd at *
              have hszd := hbel3.size
              refine wpAnyH_take (i := 0) (v := ?_) rfl (by kernel_rfl) (by kernel_rfl) (by kernel_rfl) (fun _ _ _ h => h) (Or.inl ⟨by rfl, ?_⟩) (by assumption) ?_
              rotate_left
              · intro w hSw
                go_simp
                with_reducible rfl
              try simp only [Act.put, List.setIfInBounds_toArray, List.set_cons_zero, List.set_cons_succ]
              refine wpAnyH_take (i := 1) (v := ?_) rfl (by kernel_rfl) (by kernel_rfl) (by kernel_rfl) (fun _ _ _ h => h) (Or.inl ⟨by rfl, ?_⟩) (by assumption) ?_
              rotate_left
              · intro w hSw
                go_simp
                with_reducible rfl
              try simp only [Act.put, List.setIfInBounds_toArray, List.set_cons_zero, List.set_cons_succ]
              refine wpAnyH_take (i := 2) (v := ?_) rfl (by kernel_rfl) (by kernel_rfl) (by kernel_rfl) (fun _ _ _ h => h) (Or.inl ⟨by rfl, ?_⟩) (by assumption) ?_
              rotate_left
              · intro w hSw
                go_simp
                with_reducible rfl
              try simp only [Act.put, List.setIfInBounds_toArray, List.set_cons_zero, List.set_cons_succ]
              refine wpAnyH_take (i := 3) (v := ?_) rfl (by kernel_rfl) (by kernel_rfl) (by kernel_rfl) (fun _ _ _ h => h) (Or.inl ⟨by rfl, ?_⟩) (by assumption) ?_
              rotate_left
              · intro w hSw
                go_simp
                with_reducible rfl
              try simp only [Act.put, List.setIfInBounds_toArray, List.set_cons_zero, List.set_cons_succ]
              refine wpAnyH_take (i := 4) (v := ?_) rfl (by kernel_rfl) (by kernel_rfl) (by kernel_rfl) (fun _ _ _ h => h) (Or.inl ⟨by rfl, ?_⟩) (by assumption) ?_
              rotate_left
              · intro w hSw
                go_simp
                with_reducible rfl
              try simp only [Act.put, List.setIfInBounds_toArray, List.set_cons_zero, List.set_cons_succ]
              refine wpAnyH_take (i := 6) (v := ?_) rfl (by kernel_rfl) (by kernel_rfl) (by kernel_rfl) (fun _ _ _ h => h) (Or.inl ⟨by rfl, ?_⟩) (by assumption) ?_
              rotate_left
              · intro w hSw
                go_simp
                with_reducible rfl
              try simp only [Act.put, List.setIfInBounds_toArray, List.set_cons_zero, List.set_cons_succ]
              refine wpAnyH_take (i := 8) (v := ?_) rfl (by kernel_rfl) (by kernel_rfl) (by kernel_rfl) (fun _ _ _ h => h) (Or.inl ⟨by rfl, ?_⟩) (by assumption) ?_
              rotate_left
              · intro w hSw
                go_simp
                with_reducible rfl
              try simp only [Act.put, List.setIfInBounds_toArray, List.set_cons_zero, List.set_cons_succ]
              refine wpAnyH_take (i := 9) (v := ?_) rfl (by kernel_rfl) (by kernel_rfl) (by kernel_rfl) (fun _ _ _ h => h) (Or.inl ⟨by rfl, ?_⟩) (by assumption) ?_
              rotate_left
              · intro w hSw
                go_simp
                with_reducible rfl
              try simp only [Act.put, List.setIfInBounds_toArray, List.set_cons_zero, List.set_cons_succ]
              refine wpAnyH_take (i := 10) (v := ?_) rfl (by kernel_rfl) (by kernel_rfl) (by kernel_rfl) (fun _ _ _ h => h) (Or.inl ⟨by rfl, ?_⟩) (by assumption) ?_
              rotate_left
              · intro w hSw
                go_simp
                with_reducible rfl
              try simp only [Act.put, List.setIfInBounds_toArray, List.set_cons_zero, List.set_cons_succ]
              refine wpAnyH_take (i := 11) (v := ?_) rfl (by kernel_rfl) (by kernel_rfl) (by kernel_rfl) (fun _ _ _ h => h) (Or.inl ⟨by rfl, ?_⟩) (by assumption) ?_
              rotate_left
              · intro w hSw
                go_simp
                with_reducible rfl
              try simp only [Act.put, List.setIfInBounds_toArray, List.set_cons_zero, List.set_cons_succ]
              refine wpAnyH_take (i := 14) (v := ?_) rfl (by kernel_rfl) (by kernel_rfl) (by kernel_rfl) (fun _ _ _ h => h) (Or.inl ⟨by rfl, ?_⟩) (by assumption) ?_
              rotate_left
              · intro w hSw
                go_simp
                with_reducible rfl
              try simp only [Act.put, List.setIfInBounds_toArray, List.set_cons_zero, List.set_cons_succ]
              refine wpAnyH_ready (rs := [5, 12]) (by kernel_rfl) (by simp) ?_
              refine AllReadyH.cons rfl (fun K hK => ?_) ?_
              · go_simp
                refine hK.out _ _ (hT _) (fun _ => ?_)
                clear hK K
                try simp only [Act.put, List.setIfInBounds_toArray, List.set_cons_zero, List.set_cons_succ]
                refine wpAnyH_ready (rs := [7, 12]) (by kernel_rfl) (by simp) ?_
                refine AllReadyH.cons rfl (fun K hK => ?_) ?_
                · go_simp
                  refine hK.out _ _ (hT _) (fun _ => ?_)
                  clear hK K
                  try simp only [Act.put, List.setIfInBounds_toArray, List.set_cons_zero, List.set_cons_succ]
                  refine wpAnyH_ready (rs := [12]) (by kernel_rfl) (by simp) ?_
                  refine AllReadyH.cons rfl (fun K hK => ?_) ?_
                  · go_simp
                    refine hK.out _ _ (hT _) (fun _ => ?_)
                    clear hK K
                    try simp only [Act.put, List.setIfInBounds_toArray, List.set_cons_zero, List.set_cons_succ]
                    refine wpAnyH_ready (rs := [13]) (by kernel_rfl) (by simp) ?_
                    refine AllReadyH.cons rfl (fun K hK => ?_) ?_
                    · go_simp
                      refine hK.out _ _ (hT _) (fun _ => ?_)
                      clear hK K
                      try simp only [Act.put, List.setIfInBounds_toArray, List.set_cons_zero, List.set_cons_succ]
                      refine wpAnyH_ready (rs := [15]) (by kernel_rfl) (by simp) ?_
                      refine AllReadyH.cons rfl (fun K hK => ?_) ?_
                      · go_simp
                        refine hK.out _ _ (hT _) (fun _ => ?_)
                        clear hK K
                        try simp only [Act.put, List.setIfInBounds_toArray, List.set_cons_zero, List.set_cons_succ]
                        rw [Hx.out]
                        clear cr3 cs3
                        refine wpAnyH_ready (rs := [16]) (by kernel_rfl) (by simp) ?_
                        refine AllReadyH.cons rfl (fun K hK => ?_) ?_
                        · go_simp
                          refine hK.out _ _ (hT _) (fun _ => ?_)
                          clear hK K
                          try simp only [Act.put, List.setIfInBounds_toArray, List.set_cons_zero, List.set_cons_succ]
                          refine wpAnyH_ready (rs := [17]) (by kernel_rfl) (by simp) ?_
                          refine AllReadyH.cons rfl (fun K hK => ?_) ?_
                          · refine step_append_lies _ (by rfl) _ _ _ (by rfl) w.heap.size 26 i0 _ 1 8 Tryd.underlying25 hi0 hz0 hz1 hz2 rfl (by omega) _ _ _ (by rfl) (hown3.alloc _) ⟨wd.heap.size, 0, none⟩ 1 1 [.int .u64 x] (by rfl) (by rfl) (World.news_of_block (cs := #[.int .u64 x]) (t := 26) (fr := (0, 0)) (heap_alloc_new wd _)) (by simp [Value.oneCell']) (by omega) (by unfold maxLen; omega) (by omega) (by simp; omega) (wd.heap.size + 1) (by simp) ?_
                            intro gg cap1 w1 hown1 hgrow hat hlt1
                            refine hK.out _ _ (hT _) (fun _ => ?_)
                            clear hK K
                            try simp only [Act.put, List.setIfInBounds_toArray, List.set_cons_zero, List.set_cons_succ]
                            refine wpAnyH_ready (rs := [18]) (by kernel_rfl) (by simp) ?_
                            refine AllReadyH.cons rfl (fun K hK => ?_) ?_
                            · go_simp
                              refine hK.out _ _ (hT _) (fun _ => ?_)
                              clear hK K
                              try simp only [Act.put, List.setIfInBounds_toArray, List.set_cons_zero, List.set_cons_succ]
                              refine wpAnyH_done (by kernel_rfl) ?_ _
                              refine NoPanic.normal ?_
                              go_wp2_with fail
                              go_roundw
                              case rel => exact ⟨k + 1, by omega, by go_num, by rw [HT.out] at hown1; exact hown1, hbel3.trans (Below.grown ((Below.refl _ _).alloc (by omega) _) hgrow (by simp; omega) (fun j hj => own_ge hown3 hj))⟩
                              case measure => simp [intOf]; omega
                            exact AllReadyH.nil
                          exact AllReadyH.nil
                        exact AllReadyH.nil
                      exact AllReadyH.nil
                    exact AllReadyH.nil
                  exact AllReadyH.nil
                refine AllReadyH.cons rfl (fun K hK => ?_) ?_
                · go_simp
                  refine hK.out _ _ (hT _) (fun _ => ?_)
                  clear hK K
                  try simp only [Act.put, List.setIfInBounds_toArray, List.set_cons_zero, List.set_cons_succ]
                  refine wpAnyH_ready (rs := [7]) (by kernel_rfl) (by simp) ?_
                  refine AllReadyH.cons rfl (fun K hK => ?_) ?_
                  · go_simp
                    refine hK.out _ _ (hT _) (fun _ => ?_)
                    clear hK K
                    try simp only [Act.put, List.setIfInBounds_toArray, List.set_cons_zero, List.set_cons_succ]
                    refine wpAnyH_ready (rs := [13]) (by kernel_rfl) (by simp) ?_
                    refine AllReadyH.cons rfl (fun K hK => ?_) ?_
                    · go_simp
                      refine hK.out _ _ (hT _) (fun _ => ?_)
                      clear hK K
                      try simp only [Act.put, List.setIfInBounds_toArray, List.set_cons_zero, List.set_cons_succ]
                      refine wpAnyH_ready (rs := [15]) (by kernel_rfl) (by simp) ?_
                      refine AllReadyH.cons rfl (fun K hK => ?_) ?_
                      · go_simp
                        refine hK.out _ _ (hT _) (fun _ => ?_)
                        clear hK K
                        try simp only [Act.put, List.setIfInBounds_toArray, List.set_cons_zero, List.set_cons_succ]
                        rw [Hx.out]
                        clear cr3 cs3
                        refine wpAnyH_ready (rs := [16]) (by kernel_rfl) (by simp) ?_
                        refine AllReadyH.cons rfl (fun K hK => ?_) ?_
                        · go_simp
                          refine hK.out _ _ (hT _) (fun _ => ?_)
                          clear hK K
                          try simp only [Act.put, List.setIfInBounds_toArray, List.set_cons_zero, List.set_cons_succ]
                          refine wpAnyH_ready (rs := [17]) (by kernel_rfl) (by simp) ?_
                          refine AllReadyH.cons rfl (fun K hK => ?_) ?_
                          · refine step_append_lies _ (by rfl) _ _ _ (by rfl) w.heap.size 26 i0 _ 1 8 Tryd.underlying25 hi0 hz0 hz1 hz2 rfl (by omega) _ _ _ (by rfl) (hown3.alloc _) ⟨wd.heap.size, 0, none⟩ 1 1 [.int .u64 x] (by rfl) (by rfl) (World.news_of_block (cs := #[.int .u64 x]) (t := 26) (fr := (0, 0)) (heap_alloc_new wd _)) (by simp [Value.oneCell']) (by omega) (by unfold maxLen; omega) (by omega) (by simp; omega) (wd.heap.size + 1) (by simp) ?_
                            intro gg cap1 w1 hown1 hgrow hat hlt1
                            refine hK.out _ _ (hT _) (fun _ => ?_)
                            clear hK K
                            try simp only [Act.put, List.setIfInBounds_toArray, List.set_cons_zero, List.set_cons_succ]
                            refine wpAnyH_ready (rs := [18]) (by kernel_rfl) (by simp) ?_
                            refine AllReadyH.cons rfl (fun K hK => ?_) ?_
                            · go_simp
                              refine hK.out _ _ (hT _) (fun _ => ?_)
                              clear hK K
                              try simp only [Act.put, List.setIfInBounds_toArray, List.set_cons_zero, List.set_cons_succ]
                              refine wpAnyH_done (by kernel_rfl) ?_ _
                              refine NoPanic.normal ?_
                              go_wp2_with fail
                              go_roundw
                              case rel => exact ⟨k + 1, by omega, by go_num, by rw [HT.out] at hown1; exact hown1, hbel3.trans (Below.grown ((Below.refl _ _).alloc (by omega) _) hgrow (by simp; omega) (fun j hj => own_ge hown3 hj))⟩
                              case measure => simp [intOf]; omega
                            exact AllReadyH.nil
                          exact AllReadyH.nil
                        exact AllReadyH.nil
                      exact AllReadyH.nil
                    exact AllReadyH.nil
                  exact AllReadyH.nil
                exact AllReadyH.nil
              refine AllReadyH.cons rfl (fun K hK => ?_) ?_
              · go_simp
                refine hK.out _ _ (hT _) (fun _ => ?_)
                clear hK K
                try simp only [Act.put, List.setIfInBounds_toArray, List.set_cons_zero, List.set_cons_succ]
                refine wpAnyH_ready (rs := [5]) (by kernel_rfl) (by simp) ?_
                refine AllReadyH.cons rfl (fun K hK => ?_) ?_
                · go_simp
                  refine hK.out _ _ (hT _) (fun _ => ?_)
                  clear hK K
                  try simp only [Act.put, List.setIfInBounds_toArray, List.set_cons_zero, List.set_cons_succ]
                  refine wpAnyH_ready (rs := [7]) (by kernel_rfl) (by simp) ?_
                  refine AllReadyH.cons rfl (fun K hK => ?_) ?_
                  · go_simp
                    refine hK.out _ _ (hT _) (fun _ => ?_)
                    clear hK K
                    try simp only [Act.put, List.setIfInBounds_toArray, List.set_cons_zero, List.set_cons_succ]
                    refine wpAnyH_ready (rs := [13]) (by kernel_rfl) (by simp) ?_
                    refine AllReadyH.cons rfl (fun K hK => ?_) ?_
                    · go_simp
                      refine hK.out _ _ (hT _) (fun _ => ?_)
                      clear hK K
                      try simp only [Act.put, List.setIfInBounds_toArray, List.set_cons_zero, List.set_cons_succ]
                      refine wpAnyH_ready (rs := [15]) (by kernel_rfl) (by simp) ?_
                      refine AllReadyH.cons rfl (fun K hK => ?_) ?_
                      · go_simp
                        refine hK.out _ _ (hT _) (fun _ => ?_)
                        clear hK K
                        try simp only [Act.put, List.setIfInBounds_toArray, List.set_cons_zero, List.set_cons_succ]
                        rw [Hx.out]
                        clear cr3 cs3
                        refine wpAnyH_ready (rs := [16]) (by kernel_rfl) (by simp) ?_
                        refine AllReadyH.cons rfl (fun K hK => ?_) ?_
                        · go_simp
                          refine hK.out _ _ (hT _) (fun _ => ?_)
                          clear hK K
                          try simp only [Act.put, List.setIfInBounds_toArray, List.set_cons_zero, List.set_cons_succ]
                          refine wpAnyH_ready (rs := [17]) (by kernel_rfl) (by simp) ?_
                          refine AllReadyH.cons rfl (fun K hK => ?_) ?_
                          · refine step_append_lies _ (by rfl) _ _ _ (by rfl) w.heap.size 26 i0 _ 1 8 Tryd.underlying25 hi0 hz0 hz1 hz2 rfl (by omega) _ _ _ (by rfl) (hown3.alloc _) ⟨wd.heap.size, 0, none⟩ 1 1 [.int .u64 x] (by rfl) (by rfl) (World.news_of_block (cs := #[.int .u64 x]) (t := 26) (fr := (0, 0)) (heap_alloc_new wd _)) (by simp [Value.oneCell']) (by omega) (by unfold maxLen; omega) (by omega) (by simp; omega) (wd.heap.size + 1) (by simp) ?_
                            intro gg cap1 w1 hown1 hgrow hat hlt1
                            refine hK.out _ _ (hT _) (fun _ => ?_)
                            clear hK K
                            try simp only [Act.put, List.setIfInBounds_toArray, List.set_cons_zero, List.set_cons_succ]
                            refine wpAnyH_ready (rs := [18]) (by kernel_rfl) (by simp) ?_
                            refine AllReadyH.cons rfl (fun K hK => ?_) ?_
                            · go_simp
                              refine hK.out _ _ (hT _) (fun _ => ?_)
                              clear hK K
                              try simp only [Act.put, List.setIfInBounds_toArray, List.set_cons_zero, List.set_cons_succ]
                              refine wpAnyH_done (by kernel_rfl) ?_ _
                              refine NoPanic.normal ?_
                              go_wp2_with fail
                              go_roundw
                              case rel => exact ⟨k + 1, by omega, by go_num, by rw [HT.out] at hown1; exact hown1, hbel3.trans (Below.grown ((Below.refl _ _).alloc (by omega) _) hgrow (by simp; omega) (fun j hj => own_ge hown3 hj))⟩
                              case measure => simp [intOf]; omega
                            exact AllReadyH.nil
                          exact AllReadyH.nil
                        exact AllReadyH.nil
                      exact AllReadyH.nil
                    exact AllReadyH.nil
                  exact AllReadyH.nil
                exact AllReadyH.nil
              exact AllReadyH.nil
    · have g1 : (80 : Int) ≤ (k : Int) := by omega
      have hk : k = 80 := by omega
      subst hk
      go_wp2_with fail
      go_ret
      exact ⟨_, rfl, hown, hbel⟩
end Go.Proofs.YtbglkbfnhnmodaaDoor
