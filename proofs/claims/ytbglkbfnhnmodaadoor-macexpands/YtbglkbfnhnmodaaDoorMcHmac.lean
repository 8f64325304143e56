/- The document's Hmac. -/
import Derived.Test.YtbglkbfnhnmodaaDoorRows
import Derived.Test.YtbglkbfnhnmodaaDoorMcNum
import Derived.Test.YtbglkbfnhnmodaaDoorApBs
import Derived.Test.YtbglkbfnhnmodaaDoorSCodeD
import Derived.Deep.WholeRow
import Derived.Deep.RegionHeld3
import Derived.Deep.DeepCutAuto
import Derived.Deep.DeepFit
namespace Go.Proofs.YtbglkbfnhnmodaaDoor
open Go.RowKit

def HmacRet (w : World) (v : Value) (base : Nat) (key b : List Int) : Prop := ∃ O : List Int, HmacIs key b O ∧ w.ownsRow base 5 1 v 48 (u8s O)

theorem own_fill {w : World} {base : Nat} {e : TypeId} {v : Value} {D : List Int} (h : w.ownsRow base e 1 v D.length (u8s D)) : w.ownsRow base e 1 v D.length (u8s (fillN D D.length)) := by rw [fillN_0]; exact h
theorem fillN_next {D : List Int} {j : Nat} (h : D.length ≤ j) : fillN D j ++ [0] = fillN D (j + 1) := by
  rw [fillN, fillN, show j + 1 - D.length = (j - D.length) + 1 by omega, List.replicate_succ', List.append_assoc]

set_option linter.unusedSimpArgs false in
set_option maxRecDepth 100000 in
set_option maxHeartbeats 4000000 in
theorem hmac_short {t0 t1 t2 t3 t4 t5 t6 t7 : Int} {kb kc : Nat} {kv bv : Value} {key b : List Int} {w : World} (hK : ∀ j, j < 80 → w.cell? ⟨kb, j, none⟩ = some (.int .u64 (KS.getD j 0))) (ht : HS = [t0, t1, t2, t3, t4, t5, t6, t7]) (hk : Bs w kv key) (bk : byt key) (lk : key.length ≤ 20000) (hb : Bs w bv b) (bb : byt b) (lb : b.length ≤ 19000) (hl : key.length ≤ 128) :
    Calls Tryd.prog 10 #[.agg #[.slice (some ⟨kb, 0, none⟩) 80 kc, .int .u64 t0, .int .u64 t1, .int .u64 t2, .int .u64 t3, .int .u64 t4, .int .u64 t5, .int .u64 t6, .int .u64 t7], kv, bv] w fun e w' => ∃ v' : Value, e = .returned v' ∧ HmacRet w' v' w.heap.size key b ∧ Below w.heap.size w w' := by
  have HK : Hid (∀ j, j < 80 → w.cell? ⟨kb, j, none⟩ = some (.int .u64 (KS.getD j 0))) := hK
  have HT : Hid (HS = [t0, t1, t2, t3, t4, t5, t6, t7]) := ht
  have FT : Hid (fits [t0, t1, t2, t3, t4, t5, t6, t7]) := by rw [← ht]; exact fits_HS0
  have HKb : Hid (byt key) := bk
  have HBb : Hid (byt b) := bb
  clear hK ht bk bb
  have B0 := Blk.new w [.slice (some ⟨kb, 0, none⟩) 80 kc, .int .u64 t0, .int .u64 t1, .int .u64 t2, .int .u64 t3, .int .u64 t4, .int .u64 t5, .int .u64 t6, .int .u64 t7] 29 w.heap.size rfl
  have bel : Below w.heap.size w (w.alloc (.cells [.slice (some ⟨kb, 0, none⟩) 80 kc, .int .u64 t0, .int .u64 t1, .int .u64 t2, .int .u64 t3, .int .u64 t4, .int .u64 t5, .int .u64 t6, .int .u64 t7].toArray 29)) := (Below.refl _ _).alloc (Nat.le_refl _) _
  go_enter Tryd.func10, Tryd.ntmps10
  go_upto_region 1 with fail
  try simp only [us, List.map_cons, List.map_nil] at bel
  generalize w.alloc (Obj.cells #[.slice (some ⟨kb, 0, none⟩) 80 kc, .int .u64 t0, .int .u64 t1, .int .u64 t2, .int .u64 t3, .int .u64 t4, .int .u64 t5, .int .u64 t6, .int .u64 t7] 29) = W at *
  replace hk := hk.later bel
  have HBs : Hid (Bs w bv b) := hb
  clear hb
  have lt0 := B0.lt
  have own0 := own_made W [] 5 0 (w.heap.size + 1) rfl (by omega) (by decide)
  have hk0 := hk.later ((Below.refl _ _).alloc (Nat.le_refl _) (.cells #[] 5))
  go_upto_region 2 with (at_builtin; refine wpList_append_bs (by rfl) _ _ (by rfl) (w.heap.size + 1) _ 0 [] (by rfl) own0 _ key (by rfl) hk0 (by omega) (by simp; omega) ?_; intro v1 w1 hown hgrow hat)
  replace B0 := blk_grown (base := w.heap.size + 1) (B0.alloc _) hgrow (by omega) (fun j hj => own_ge own0 hj)
  replace bel := bel.trans (Below.grown ((Below.refl _ _).alloc (by omega) _) hgrow (by simp; omega) (fun j hj => Nat.le_trans (by omega) (own_ge own0 hj)))
  clear hgrow hat own0 hk0 hk lt0
  rw [Nat.zero_add, List.nil_append] at hown
  obtain ⟨a1, c1, rfl, d1, d2⟩ := own_slice hown
  unfold maxLen at d2
  have g1 : ¬ (128 : Int) < ((key.length : Nat) : Int) := by omega
  obtain ⟨D, hD⟩ : ∃ D, key = D := ⟨_, rfl⟩
  have HD : Hid (ShortIs key D) := by show ShortIs key D; unfold ShortIs; rw [if_pos hl]; exact hD.symm
  have eD : D.length ≤ 128 := by rw [← hD]; exact hl
  rw [hD] at hown g1 ⊢
  have HKD : Hid (key = D) := hD
  clear hD
  go_wp2_with fail
  have own1 : _ := own_fill hown
  clear hown
  obtain ⟨W1, hW1⟩ : ∃ z : World, z = w1 := ⟨_, rfl⟩
  rw [← hW1] at own1 B0 bel ⊢
  clear hW1
  go_loopw [7] (fun kv wx => ∃ j : Nat, D.length ≤ j ∧ j ≤ 128 ∧ wx.ownsRow (w.heap.size + 1) 5 1 kv j (u8s (fillN D j)) ∧ Blk wx w.heap.size [.slice (some ⟨kb, 0, none⟩) 80 kc, .int .u64 t0, .int .u64 t1, .int .u64 t2, .int .u64 t3, .int .u64 t4, .int .u64 t5, .int .u64 t6, .int .u64 t7] ∧ Below w.heap.size w wx) (fun kv _ => 129 - lenV kv)
  case atStart => exact ⟨D.length, Nat.le_refl _, by omega, own1, B0, bel⟩
  case round =>
    clear own1 B0 bel
    obtain ⟨j, hj1, hj2, own1, B0, bel⟩ := hrel
    obtain ⟨aj, cj, rfl, e1, e2⟩ := own_slice own1
    unfold maxLen at e2
    have lt0 := B0.lt
    by_cases hjl : j < 128
    · have g2 : (j : Int) < 128 := by omega
      have b1 := bs_one wr 0
      have HF : Hid _ := fillN_next hj1
      go_wp2_with (first | (at_builtin; refine wpList_append_bs (by rfl) _ _ (by rfl) (w.heap.size + 1) _ j (fillN D j) (by rfl) (own1.alloc _) _ [0] (by rfl) b1 (by simp; omega) (by simp; omega) ?_; intro v5 w5 own5 hgrow hat) | fail)
      go_roundw
      case rel =>
        rw [HF.out] at own5
        exact ⟨j + 1, by omega, by omega, own5, blk_grown (base := w.heap.size + 1) (B0.alloc _) hgrow (by omega) (fun i hi => own_ge own1 hi), bel.trans (Below.grown ((Below.refl _ _).alloc (by omega) _) hgrow (by simp; omega) (fun i hi => Nat.le_trans (by omega) (own_ge own1 hi)))⟩
      case measure => obtain ⟨a6, c6, rfl, _, _⟩ := own_slice own5; simp [lenV]; omega
    · have HJ : Hid (j = 128) := by show j = 128; omega
      have g2 : (128 : Int) ≤ (j : Int) := by omega
      obtain ⟨k, hk⟩ : ∃ k, fillN D 128 = k := ⟨_, rfl⟩
      have HKk : Hid (fillN D 128 = k) := hk
      have lk2 : Hid (k.length = 128) := by rw [← hk]; exact fillN_len HD.out.ln
      have bk2 : Hid (byt k) := by rw [← hk]; exact fillN_byt (HD.out.byt HKb.out)
      rw [HJ.out, hk] at own1
      clear hk
      obtain ⟨gk, ck, cur, hv, hgk, BK, k1, k2, hcur⟩ := own_bytes own1 (by decide)
      obtain ⟨rfl, rfl⟩ : aj = some ⟨gk, 0, none⟩ ∧ cj = ck := by simpa using hv
      have HC : Hid _ := hcur
      clear hv own1 hcur
      go_wp2_with fail
      obtain ⟨W2, hW2⟩ : ∃ z : World, z = wr := ⟨_, rfl⟩
      rw [← hW2] at B0 bel BK lt0 ⊢
      clear hW2
      have lgk := BK.lt
      have bs2 := bel.size
      have lw0 := lt0
      go_loopw [8, 9, 10] (fun iv ov nv wx => ∃ i : Nat, i ≤ 128 ∧ nv = .int .i64 i ∧ wx.ownsRow W2.heap.size 5 1 iv i (u8s ((xorN 54 k).take i)) ∧ wx.ownsRow W2.heap.size 5 1 ov i (u8s ((xorN 92 k).take i)) ∧ Apart iv ov ∧ Below W2.heap.size W2 wx) (fun _ _ nv _ => 128 - (intOf nv).toNat)
      case atStart => exact ⟨0, by omega, rfl, World.ownsRow_nil _ _ _ _, World.ownsRow_nil _ _ _ _, apart_nil _, Below.refl _ _⟩
      case round =>
        obtain ⟨i, hi, rfl, own1, own2, hap, hbx⟩ := hrel
        have hsx := hbx.size
        by_cases hil : i < 128
        · have HC1 := (BK.below hbx BK.lt).cell i _ (HC.out i hil)
          have l1 := (BK.below hbx BK.lt).lt
          have hy1 := take_next (k := xorN 54 k) (i := i) (by rw [xorN_len, lk2.out]; exact hil)
          have hy2 := take_next (k := xorN 92 k) (i := i) (by rw [xorN_len, lk2.out]; exact hil)
          rw [xorN_get 54 k i (by rw [lk2.out]; exact hil)] at hy1
          rw [xorN_get 92 k i (by rw [lk2.out]; exact hil)] at hy2
          obtain ⟨x, hx⟩ : ∃ x, k.getD i 0 = x := ⟨_, rfl⟩
          rw [hx] at HC1 hy1 hy2
          have hx2 : Hid _ := hx
          have HY1 : Hid _ := hy1
          have HY2 : Hid _ := hy2
          clear hx hy1 hy2
          have g3 : (i : Int) < 128 := by omega
          have g4 : (0 : Int) ≤ (i : Int) := by omega
          have g5 : (i : Int) < (j : Int) := by have := HJ.out; omega
          obtain ⟨y1, hy1⟩ : ∃ y, bits .xor .u8 x 54 = y := ⟨_, rfl⟩
          obtain ⟨y2, hy2⟩ : ∃ y, bits .xor .u8 x 92 = y := ⟨_, rfl⟩
          rw [hy1] at HY1
          rw [hy2] at HY2
          have b1 := bs_one wr y1
          go_upto_region 12 with (at_builtin; refine wpList_append_bs (by rfl) _ _ (by rfl) W2.heap.size _ i ((xorN 54 k).take i) (by rfl) (own1.alloc _) _ [y1] (by rfl) b1 (by simp; omega) (by simp; omega) ?_; intro v5 w5 own5 hgrow hat)
          rw [HY1.out] at own5
          have own6 := (own2.alloc (.cells #[.int .u8 y1] 5)).kept hgrow hap.swap.kept
          replace hap := hap.new (own2.alloc (.cells #[.int .u8 y1] 5)) hat
          replace hbx := below_own (base := W2.heap.size) (hbx.alloc hsx (.cells #[.int .u8 y1] 5)) hgrow (by simp; omega) (fun g hg => own_ge own1 hg) (Nat.le_refl _)
          clear hgrow hat b1 own1 own2 HC1 l1
          have HC1 := (BK.below hbx BK.lt).cell i _ (HC.out i hil)
          have l1 := (BK.below hbx BK.lt).lt
          rw [hx2.out] at HC1
          replace hsx := hbx.size
          have b2 := bs_one w5 y2
          go_wp2_with (first | (at_builtin; refine wpList_append_bs (by rfl) _ _ (by rfl) W2.heap.size _ i ((xorN 92 k).take i) (by rfl) (own6.alloc _) _ [y2] (by rfl) b2 (by simp; omega) (by simp; omega) ?_; intro v7 w7 own7 hgrow hat) | fail)
          go_roundw
          case rel =>
            rw [HY2.out] at own7
            exact ⟨i + 1, by omega, by go_num, (own5.alloc (.cells #[.int .u8 y2] 5)).kept hgrow hap.kept, own7, (hap.swap.new (own5.alloc (.cells #[.int .u8 y2] 5)) hat).swap, below_own (base := W2.heap.size) (hbx.alloc hsx (.cells #[.int .u8 y2] 5)) hgrow (by simp; omega) (fun g hg => own_ge own6 hg) (Nat.le_refl _)⟩
          case measure => simp [intOf]; omega
        · have HI : Hid (i = 128) := by show i = 128; omega
          have g3 : (128 : Int) ≤ (i : Int) := by omega
          rw [HI.out, List.take_of_length_le (by rw [xorN_len, lk2.out]; exact Nat.le_refl _)] at own1 own2
          replace B0 := B0.below hbx B0.lt
          replace bel := below_step bel hbx
          have hbb := HBs.out.later bel
          clear hbx BK lgk HC bs2 lt0
          have lt0 := B0.lt
          have hs9 : W2.heap.size ≤ wr.heap.size := hsx
          have lw2 : w.heap.size < W2.heap.size := lw0
          go_upto_region 14 with (at_builtin; refine wpList_append_bs (by rfl) _ _ (by rfl) W2.heap.size _ 128 (xorN 54 k) (by rfl) own1 _ b (by rfl) hbb (by omega) hs9 ?_; intro v5 w5 own5 hgrow hat)
          have own6 := own2.kept hgrow hap.swap.kept
          replace B0 := blk_grown (base := W2.heap.size) B0 hgrow lw2 (fun i hi => own_ge own1 hi)
          replace bel := below_own (base := W2.heap.size) bel hgrow bel.size (fun g hg => own_ge own1 hg) (by omega)
          replace hs9 := Nat.le_trans hs9 hgrow.size
          clear hgrow hat hap own1 own2 hbb lt0
          have lt0 := B0.lt
          have x0 := B0.cell 0 _ rfl
          have x1 := B0.cell 1 _ rfl
          have x2 := B0.cell 2 _ rfl
          have x3 := B0.cell 3 _ rfl
          have x4 := B0.cell 4 _ rfl
          have x5 := B0.cell 5 _ rfl
          have x6 := B0.cell 6 _ rfl
          have x7 := B0.cell 7 _ rfl
          have x8 := B0.cell 8 _ rfl
          go_wp2_with fail
          refine (r7_Sum (K := KS) (B := xorN 54 k ++ b) (fun j hj => cell_later (HK.out j hj) bel) (Bs.of_own own5) (byt_app (xorN_byt bk2.out (by decide) (by decide)) HBb.out) (by rw [List.length_append, xorN_len, lk2.out]; omega) FT.out).mono ?_
          rintro e w6 ⟨v6, rfl, ⟨P, I, hP, hI, own7⟩, hbb⟩
          have HI2 : Hid (SumIs KS HS (xorN 54 k ++ b) I) := by show SumIs _ _ _ _; rw [HT.out]; exact ⟨P, hP, hI⟩
          clear hP hI own5
          replace own6 := own_later own6 hbb
          replace B0 := B0.later hbb
          replace bel := below_step bel hbb
          replace hs9 := Nat.le_trans hs9 hbb.size
          have bI := Bs.of_own own7
          have lI := HI2.out.ln
          clear hbb lt0 own7 x0 x1 x2 x3 x4 x5 x6 x7 x8
          go_upto_region 15 with (first | (at_builtin; refine wpList_append_bs (by rfl) _ _ (by rfl) W2.heap.size _ 128 (xorN 92 k) (by rfl) own6 _ I (by rfl) bI (by omega) hs9 ?_; intro v8 w8 own8 hgrow hat) | fail)
          replace B0 := blk_grown (base := W2.heap.size) B0 hgrow lw2 (fun i hi => own_ge own6 hi)
          replace bel := below_own (base := W2.heap.size) bel hgrow bel.size (fun g hg => own_ge own6 hg) (by omega)
          clear hgrow hat own6 bI
          have lt0 := B0.lt
          have x0 := B0.cell 0 _ rfl
          have x1 := B0.cell 1 _ rfl
          have x2 := B0.cell 2 _ rfl
          have x3 := B0.cell 3 _ rfl
          have x4 := B0.cell 4 _ rfl
          have x5 := B0.cell 5 _ rfl
          have x6 := B0.cell 6 _ rfl
          have x7 := B0.cell 7 _ rfl
          have x8 := B0.cell 8 _ rfl
          go_wp2_with fail
          refine (r7_Sum (K := KS) (B := xorN 92 k ++ I) (fun j hj => cell_later (HK.out j hj) bel) (Bs.of_own own8) (byt_app (xorN_byt bk2.out (by decide) (by decide)) HI2.out.byt) (by rw [List.length_append, xorN_len, lk2.out]; omega) FT.out).mono ?_
          rintro e w9 ⟨v9, rfl, ⟨P, O, hP, hO, own9⟩, hbb⟩
          have HO : Hid (SumIs KS HS (xorN 92 k ++ I) O) := by show SumIs _ _ _ _; rw [HT.out]; exact ⟨P, hP, hO⟩
          clear hP hO x0 x1 x2 x3 x4 x5 x6 x7 x8
          go_wp2_with fail
          go_ret
          refine ⟨_, rfl, ⟨O, ⟨D, I, HD.out, by rw [HKk.out]; exact HI2.out, by rw [HKk.out]; exact HO.out⟩, own_mono own9 bel.size⟩, below_step bel hbb⟩

set_option linter.unusedSimpArgs false in
set_option maxRecDepth 100000 in
set_option maxHeartbeats 4000000 in
theorem hmac_long {t0 t1 t2 t3 t4 t5 t6 t7 : Int} {kb kc : Nat} {kv bv : Value} {key b : List Int} {w : World} (hK : ∀ j, j < 80 → w.cell? ⟨kb, j, none⟩ = some (.int .u64 (KS.getD j 0))) (ht : HS = [t0, t1, t2, t3, t4, t5, t6, t7]) (hk : Bs w kv key) (bk : byt key) (lk : key.length ≤ 20000) (hb : Bs w bv b) (bb : byt b) (lb : b.length ≤ 19000) (hl : 128 < key.length) :
    Calls Tryd.prog 10 #[.agg #[.slice (some ⟨kb, 0, none⟩) 80 kc, .int .u64 t0, .int .u64 t1, .int .u64 t2, .int .u64 t3, .int .u64 t4, .int .u64 t5, .int .u64 t6, .int .u64 t7], kv, bv] w fun e w' => ∃ v' : Value, e = .returned v' ∧ HmacRet w' v' w.heap.size key b ∧ Below w.heap.size w w' := by
  have HK : Hid (∀ j, j < 80 → w.cell? ⟨kb, j, none⟩ = some (.int .u64 (KS.getD j 0))) := hK
  have HT : Hid (HS = [t0, t1, t2, t3, t4, t5, t6, t7]) := ht
  have FT : Hid (fits [t0, t1, t2, t3, t4, t5, t6, t7]) := by rw [← ht]; exact fits_HS0
  have HKb : Hid (byt key) := bk
  have HBb : Hid (byt b) := bb
  clear hK ht bk bb
  have B0 := Blk.new w [.slice (some ⟨kb, 0, none⟩) 80 kc, .int .u64 t0, .int .u64 t1, .int .u64 t2, .int .u64 t3, .int .u64 t4, .int .u64 t5, .int .u64 t6, .int .u64 t7] 29 w.heap.size rfl
  have bel : Below w.heap.size w (w.alloc (.cells [.slice (some ⟨kb, 0, none⟩) 80 kc, .int .u64 t0, .int .u64 t1, .int .u64 t2, .int .u64 t3, .int .u64 t4, .int .u64 t5, .int .u64 t6, .int .u64 t7].toArray 29)) := (Below.refl _ _).alloc (Nat.le_refl _) _
  go_enter Tryd.func10, Tryd.ntmps10
  go_upto_region 1 with fail
  try simp only [us, List.map_cons, List.map_nil] at bel
  generalize w.alloc (Obj.cells #[.slice (some ⟨kb, 0, none⟩) 80 kc, .int .u64 t0, .int .u64 t1, .int .u64 t2, .int .u64 t3, .int .u64 t4, .int .u64 t5, .int .u64 t6, .int .u64 t7] 29) = W at *
  replace hk := hk.later bel
  have HBs : Hid (Bs w bv b) := hb
  clear hb
  have lt0 := B0.lt
  have own0 := own_made W [] 5 0 (w.heap.size + 1) rfl (by omega) (by decide)
  have hk0 := hk.later ((Below.refl _ _).alloc (Nat.le_refl _) (.cells #[] 5))
  go_upto_region 2 with (at_builtin; refine wpList_append_bs (by rfl) _ _ (by rfl) (w.heap.size + 1) _ 0 [] (by rfl) own0 _ key (by rfl) hk0 (by omega) (by simp; omega) ?_; intro v1 w1 hown hgrow hat)
  replace B0 := blk_grown (base := w.heap.size + 1) (B0.alloc _) hgrow (by omega) (fun j hj => own_ge own0 hj)
  replace bel := bel.trans (Below.grown ((Below.refl _ _).alloc (by omega) _) hgrow (by simp; omega) (fun j hj => Nat.le_trans (by omega) (own_ge own0 hj)))
  clear hgrow hat own0 hk0 hk lt0
  rw [Nat.zero_add, List.nil_append] at hown
  obtain ⟨a1, c1, rfl, d1, d2⟩ := own_slice hown
  unfold maxLen at d2
  have g1 : (128 : Int) < ((key.length : Nat) : Int) := by omega
  have x0 := B0.cell 0 _ rfl
  have x1 := B0.cell 1 _ rfl
  have x2 := B0.cell 2 _ rfl
  have x3 := B0.cell 3 _ rfl
  have x4 := B0.cell 4 _ rfl
  have x5 := B0.cell 5 _ rfl
  have x6 := B0.cell 6 _ rfl
  have x7 := B0.cell 7 _ rfl
  have x8 := B0.cell 8 _ rfl
  have lt0 := B0.lt
  go_wp2_with fail
  clear x0 x1 x2 x3 x4 x5 x6 x7 x8 lt0
  refine (r7_Sum (K := KS) (B := key) (fun j hj => cell_later (HK.out j hj) bel) (Bs.of_own hown) HKb.out lk FT.out).mono ?_
  rintro e w2 ⟨v2, rfl, ⟨P, D, hP, hD, hown2⟩, hbb⟩
  have HD : Hid (ShortIs key D) := by show ShortIs key D; unfold ShortIs; rw [if_neg (by omega), HT.out]; exact ⟨P, hP, hD⟩
  clear hP hD hown
  have hown := own_mono hown2 (show w.heap.size + 1 ≤ w1.heap.size by have := B0.lt; omega)
  replace B0 := B0.later hbb
  replace bel := below_step bel hbb
  clear hbb hown2
  have eD : D.length = 48 := by have := hown.1; simpa using this
  rw [← eD] at hown
  go_wp2_with fail
  have own1 : _ := own_fill hown
  clear hown
  obtain ⟨W1, hW1⟩ : ∃ z : World, z = w2 := ⟨_, rfl⟩
  rw [← hW1] at own1 B0 bel ⊢
  clear hW1
  go_loopw [7] (fun kv wx => ∃ j : Nat, D.length ≤ j ∧ j ≤ 128 ∧ wx.ownsRow (w.heap.size + 1) 5 1 kv j (u8s (fillN D j)) ∧ Blk wx w.heap.size [.slice (some ⟨kb, 0, none⟩) 80 kc, .int .u64 t0, .int .u64 t1, .int .u64 t2, .int .u64 t3, .int .u64 t4, .int .u64 t5, .int .u64 t6, .int .u64 t7] ∧ Below w.heap.size w wx) (fun kv _ => 129 - lenV kv)
  case atStart => exact ⟨D.length, Nat.le_refl _, by omega, own1, B0, bel⟩
  case round =>
    clear own1 B0 bel
    obtain ⟨j, hj1, hj2, own1, B0, bel⟩ := hrel
    obtain ⟨aj, cj, rfl, e1, e2⟩ := own_slice own1
    unfold maxLen at e2
    have lt0 := B0.lt
    by_cases hjl : j < 128
    · have g2 : (j : Int) < 128 := by omega
      have b1 := bs_one wr 0
      have HF : Hid _ := fillN_next hj1
      go_wp2_with (first | (at_builtin; refine wpList_append_bs (by rfl) _ _ (by rfl) (w.heap.size + 1) _ j (fillN D j) (by rfl) (own1.alloc _) _ [0] (by rfl) b1 (by simp; omega) (by simp; omega) ?_; intro v5 w5 own5 hgrow hat) | fail)
      go_roundw
      case rel =>
        rw [HF.out] at own5
        exact ⟨j + 1, by omega, by omega, own5, blk_grown (base := w.heap.size + 1) (B0.alloc _) hgrow (by omega) (fun i hi => own_ge own1 hi), bel.trans (Below.grown ((Below.refl _ _).alloc (by omega) _) hgrow (by simp; omega) (fun i hi => Nat.le_trans (by omega) (own_ge own1 hi)))⟩
      case measure => obtain ⟨a6, c6, rfl, _, _⟩ := own_slice own5; simp [lenV]; omega
    · have HJ : Hid (j = 128) := by show j = 128; omega
      have g2 : (128 : Int) ≤ (j : Int) := by omega
      obtain ⟨k, hk⟩ : ∃ k, fillN D 128 = k := ⟨_, rfl⟩
      have HKk : Hid (fillN D 128 = k) := hk
      have lk2 : Hid (k.length = 128) := by rw [← hk]; exact fillN_len HD.out.ln
      have bk2 : Hid (byt k) := by rw [← hk]; exact fillN_byt (HD.out.byt HKb.out)
      rw [HJ.out, hk] at own1
      clear hk
      obtain ⟨gk, ck, cur, hv, hgk, BK, k1, k2, hcur⟩ := own_bytes own1 (by decide)
      obtain ⟨rfl, rfl⟩ : aj = some ⟨gk, 0, none⟩ ∧ cj = ck := by simpa using hv
      have HC : Hid _ := hcur
      clear hv own1 hcur
      go_wp2_with fail
      obtain ⟨W2, hW2⟩ : ∃ z : World, z = wr := ⟨_, rfl⟩
      rw [← hW2] at B0 bel BK lt0 ⊢
      clear hW2
      have lgk := BK.lt
      have bs2 := bel.size
      have lw0 := lt0
      go_loopw [8, 9, 10] (fun iv ov nv wx => ∃ i : Nat, i ≤ 128 ∧ nv = .int .i64 i ∧ wx.ownsRow W2.heap.size 5 1 iv i (u8s ((xorN 54 k).take i)) ∧ wx.ownsRow W2.heap.size 5 1 ov i (u8s ((xorN 92 k).take i)) ∧ Apart iv ov ∧ Below W2.heap.size W2 wx) (fun _ _ nv _ => 128 - (intOf nv).toNat)
      case atStart => exact ⟨0, by omega, rfl, World.ownsRow_nil _ _ _ _, World.ownsRow_nil _ _ _ _, apart_nil _, Below.refl _ _⟩
      case round =>
        obtain ⟨i, hi, rfl, own1, own2, hap, hbx⟩ := hrel
        have hsx := hbx.size
        by_cases hil : i < 128
        · have HC1 := (BK.below hbx BK.lt).cell i _ (HC.out i hil)
          have l1 := (BK.below hbx BK.lt).lt
          have hy1 := take_next (k := xorN 54 k) (i := i) (by rw [xorN_len, lk2.out]; exact hil)
          have hy2 := take_next (k := xorN 92 k) (i := i) (by rw [xorN_len, lk2.out]; exact hil)
          rw [xorN_get 54 k i (by rw [lk2.out]; exact hil)] at hy1
          rw [xorN_get 92 k i (by rw [lk2.out]; exact hil)] at hy2
          obtain ⟨x, hx⟩ : ∃ x, k.getD i 0 = x := ⟨_, rfl⟩
          rw [hx] at HC1 hy1 hy2
          have hx2 : Hid _ := hx
          have HY1 : Hid _ := hy1
          have HY2 : Hid _ := hy2
          clear hx hy1 hy2
          have g3 : (i : Int) < 128 := by omega
          have g4 : (0 : Int) ≤ (i : Int) := by omega
          have g5 : (i : Int) < (j : Int) := by have := HJ.out; omega
          obtain ⟨y1, hy1⟩ : ∃ y, bits .xor .u8 x 54 = y := ⟨_, rfl⟩
          obtain ⟨y2, hy2⟩ : ∃ y, bits .xor .u8 x 92 = y := ⟨_, rfl⟩
          rw [hy1] at HY1
          rw [hy2] at HY2
          have b1 := bs_one wr y1
          go_upto_region 12 with (at_builtin; refine wpList_append_bs (by rfl) _ _ (by rfl) W2.heap.size _ i ((xorN 54 k).take i) (by rfl) (own1.alloc _) _ [y1] (by rfl) b1 (by simp; omega) (by simp; omega) ?_; intro v5 w5 own5 hgrow hat)
          rw [HY1.out] at own5
          have own6 := (own2.alloc (.cells #[.int .u8 y1] 5)).kept hgrow hap.swap.kept
          replace hap := hap.new (own2.alloc (.cells #[.int .u8 y1] 5)) hat
          replace hbx := below_own (base := W2.heap.size) (hbx.alloc hsx (.cells #[.int .u8 y1] 5)) hgrow (by simp; omega) (fun g hg => own_ge own1 hg) (Nat.le_refl _)
          clear hgrow hat b1 own1 own2 HC1 l1
          have HC1 := (BK.below hbx BK.lt).cell i _ (HC.out i hil)
          have l1 := (BK.below hbx BK.lt).lt
          rw [hx2.out] at HC1
          replace hsx := hbx.size
          have b2 := bs_one w5 y2
          go_wp2_with (first | (at_builtin; refine wpList_append_bs (by rfl) _ _ (by rfl) W2.heap.size _ i ((xorN 92 k).take i) (by rfl) (own6.alloc _) _ [y2] (by rfl) b2 (by simp; omega) (by simp; omega) ?_; intro v7 w7 own7 hgrow hat) | fail)
          go_roundw
          case rel =>
            rw [HY2.out] at own7
            exact ⟨i + 1, by omega, by go_num, (own5.alloc (.cells #[.int .u8 y2] 5)).kept hgrow hap.kept, own7, (hap.swap.new (own5.alloc (.cells #[.int .u8 y2] 5)) hat).swap, below_own (base := W2.heap.size) (hbx.alloc hsx (.cells #[.int .u8 y2] 5)) hgrow (by simp; omega) (fun g hg => own_ge own6 hg) (Nat.le_refl _)⟩
          case measure => simp [intOf]; omega
        · have HI : Hid (i = 128) := by show i = 128; omega
          have g3 : (128 : Int) ≤ (i : Int) := by omega
          rw [HI.out, List.take_of_length_le (by rw [xorN_len, lk2.out]; exact Nat.le_refl _)] at own1 own2
          replace B0 := B0.below hbx B0.lt
          replace bel := below_step bel hbx
          have hbb := HBs.out.later bel
          clear hbx BK lgk HC bs2 lt0
          have lt0 := B0.lt
          have hs9 : W2.heap.size ≤ wr.heap.size := hsx
          have lw2 : w.heap.size < W2.heap.size := lw0
          go_upto_region 14 with (at_builtin; refine wpList_append_bs (by rfl) _ _ (by rfl) W2.heap.size _ 128 (xorN 54 k) (by rfl) own1 _ b (by rfl) hbb (by omega) hs9 ?_; intro v5 w5 own5 hgrow hat)
          have own6 := own2.kept hgrow hap.swap.kept
          replace B0 := blk_grown (base := W2.heap.size) B0 hgrow lw2 (fun i hi => own_ge own1 hi)
          replace bel := below_own (base := W2.heap.size) bel hgrow bel.size (fun g hg => own_ge own1 hg) (by omega)
          replace hs9 := Nat.le_trans hs9 hgrow.size
          clear hgrow hat hap own1 own2 hbb lt0
          have lt0 := B0.lt
          have x0 := B0.cell 0 _ rfl
          have x1 := B0.cell 1 _ rfl
          have x2 := B0.cell 2 _ rfl
          have x3 := B0.cell 3 _ rfl
          have x4 := B0.cell 4 _ rfl
          have x5 := B0.cell 5 _ rfl
          have x6 := B0.cell 6 _ rfl
          have x7 := B0.cell 7 _ rfl
          have x8 := B0.cell 8 _ rfl
          go_wp2_with fail
          refine (r7_Sum (K := KS) (B := xorN 54 k ++ b) (fun j hj => cell_later (HK.out j hj) bel) (Bs.of_own own5) (byt_app (xorN_byt bk2.out (by decide) (by decide)) HBb.out) (by rw [List.length_append, xorN_len, lk2.out]; omega) FT.out).mono ?_
          rintro e w6 ⟨v6, rfl, ⟨P, I, hP, hI, own7⟩, hbb⟩
          have HI2 : Hid (SumIs KS HS (xorN 54 k ++ b) I) := by show SumIs _ _ _ _; rw [HT.out]; exact ⟨P, hP, hI⟩
          clear hP hI own5
          replace own6 := own_later own6 hbb
          replace B0 := B0.later hbb
          replace bel := below_step bel hbb
          replace hs9 := Nat.le_trans hs9 hbb.size
          have bI := Bs.of_own own7
          have lI := HI2.out.ln
          clear hbb lt0 own7 x0 x1 x2 x3 x4 x5 x6 x7 x8
          go_upto_region 15 with (first | (at_builtin; refine wpList_append_bs (by rfl) _ _ (by rfl) W2.heap.size _ 128 (xorN 92 k) (by rfl) own6 _ I (by rfl) bI (by omega) hs9 ?_; intro v8 w8 own8 hgrow hat) | fail)
          replace B0 := blk_grown (base := W2.heap.size) B0 hgrow lw2 (fun i hi => own_ge own6 hi)
          replace bel := below_own (base := W2.heap.size) bel hgrow bel.size (fun g hg => own_ge own6 hg) (by omega)
          clear hgrow hat own6 bI
          have lt0 := B0.lt
          have x0 := B0.cell 0 _ rfl
          have x1 := B0.cell 1 _ rfl
          have x2 := B0.cell 2 _ rfl
          have x3 := B0.cell 3 _ rfl
          have x4 := B0.cell 4 _ rfl
          have x5 := B0.cell 5 _ rfl
          have x6 := B0.cell 6 _ rfl
          have x7 := B0.cell 7 _ rfl
          have x8 := B0.cell 8 _ rfl
          go_wp2_with fail
          refine (r7_Sum (K := KS) (B := xorN 92 k ++ I) (fun j hj => cell_later (HK.out j hj) bel) (Bs.of_own own8) (byt_app (xorN_byt bk2.out (by decide) (by decide)) HI2.out.byt) (by rw [List.length_append, xorN_len, lk2.out]; omega) FT.out).mono ?_
          rintro e w9 ⟨v9, rfl, ⟨P, O, hP, hO, own9⟩, hbb⟩
          have HO : Hid (SumIs KS HS (xorN 92 k ++ I) O) := by show SumIs _ _ _ _; rw [HT.out]; exact ⟨P, hP, hO⟩
          clear hP hO x0 x1 x2 x3 x4 x5 x6 x7 x8
          go_wp2_with fail
          go_ret
          refine ⟨_, rfl, ⟨O, ⟨D, I, HD.out, by rw [HKk.out]; exact HI2.out, by rw [HKk.out]; exact HO.out⟩, own_mono own9 bel.size⟩, below_step bel hbb⟩
end Go.Proofs.YtbglkbfnhnmodaaDoor
