/- The law's read. -/
import Derived.Test.YtineihnipidmfaaRows
import Derived.Test.YtineihnipidmfaaNmRd
import Derived.Test.YtineihnipidmfaaNmMay
import Derived.Test.YtineihnipidmfaaNmConv
import Derived.Test.YtineihnipidmfaaNmElem
import Derived.Test.YtineihnipidmfaaDrTG
import Derived.Test.YtineihnipidmfaaDrDG
import Derived.Test.YtineihnipidmfaaDrOwn
import Derived.Test.YtineihnipidmfaaPmText
import Derived.Test.YtineihnipidmfaaNmPt
import Derived.Deep.OwnRows
import Derived.Deep.AppendLies
import Derived.Great.BuildSlice
import Derived.Laws.Rows
import Derived.BigQuiet
import Derived.Deep.WholeRow
import Derived.Deep.RegionHeld3
import Derived.Deep.DeepCutAuto
import Derived.Deep.DeepFit
namespace Go.Proofs.Ytineihnipidmfaa
open Go.RowKit

set_option linter.unusedSimpArgs false in
set_option maxRecDepth 100000 in
set_option maxHeartbeats 8000000 in
theorem con_read16 {T : Tl} {cs : List Value} {w : World} (h : TlAt w T cs) (wf : WfT T) (hz : szT T ≤ 1000000) :
    Calls Try.prog 17 #[.agg cs.toArray] w (ReadR w T) := by
  obtain ⟨c, t, m, b, ks⟩ := T
  have HZ : Hid (ks.length ≤ 1000000) := by have h1 := kids_le ks; rw [szT] at hz; show _ ≤ _; omega
  rw [WfT] at wf
  have HWf : Hid (WfL ks) := wf.2.2.2
  rw [TlAt] at h
  obtain ⟨bv, ka, kc, rfl, hbv, x1, x2, hk⟩ := h
  obtain ⟨ba, bc, rfl, -, -, -⟩ := hbv
  have HK : Hid (0 < ks.length → ∃ g o, ka = some ⟨g, o, none⟩ ∧ KidsAt w ks g o) := hk
  obtain ⟨N, hN⟩ : ∃ N, b.length = N := ⟨_, rfl⟩
  obtain ⟨K, hK⟩ : ∃ K, ks.length = K := ⟨_, rfl⟩
  have HL : Hid (ks.length = K) := hK
  rw [hK] at HK HZ ⊢
  rw [hN]
  clear hN hK hk x1 x2 hz wf
  have B := Blk.new w [.int .i64 c, .int .i64 t, .bool m, .slice ba N bc, .slice ka K kc] 28 w.heap.size rfl
  have bel : Below w.heap.size w (w.alloc (.cells #[.int .i64 c, .int .i64 t, .bool m, .slice ba N bc, .slice ka K kc] 28)) := (Below.refl _ _).alloc (Nat.le_refl _) _
  go_enter Try.func17, Try.ntmps17
  go_upto_region 1 with fail
  generalize w.alloc (.cells #[.int .i64 c, .int .i64 t, .bool m, .slice ba N bc, .slice ka K kc] 28) = W at *
  have f0 := B.cell 0 _ rfl
  have f1 := B.cell 1 _ rfl
  have f2 := B.cell 2 _ rfl
  have f3 := B.cell 3 _ rfl
  have f4 := B.cell 4 _ rfl
  have fl := B.lt
  by_cases hq : c = 0
  rotate_left
  · have d1 : (c == 0) = false := by rw [beq_eq_false_iff_ne]; exact hq
    have d2 : (c != 0) = true := by rw [bne, d1]; rfl
    have HQ : Hid (¬ c = 0) := hq
    clear hq
    have H : Hid (readN (.mk c t m b ks) = .error 7) := readN_no (fun h => HQ.out h.1)
    clear HK HWf HZ HL
    go_wp2_with fail
    refine bodyPost_ret (results_tmp2 rfl _ _ _) rfl ?_
    exact ReadR.bad H.out bel
  subst hq
  by_cases hq : t = 16
  rotate_left
  · have d1 : (t == 16) = false := by rw [beq_eq_false_iff_ne]; exact hq
    have d2 : (t != 16) = true := by rw [bne, d1]; rfl
    have HQ : Hid (¬ t = 16) := hq
    clear hq
    have H : Hid (readN (.mk 0 t m b ks) = .error 7) := readN_no (fun h => HQ.out h.2.1)
    clear HK HWf HZ HL
    go_wp2_with fail
    refine bodyPost_ret (results_tmp2 rfl _ _ _) rfl ?_
    exact ReadR.bad H.out bel
  subst hq
  by_cases hq : m = true
  rotate_left
  · have hq2 : m = false := by cases m with
      | true => first | rfl | exact absurd rfl hq
      | false => first | rfl | exact absurd rfl hq
    subst hq2
    clear hq
    have H : Hid (readN (.mk 0 16 false b ks) = .error 7) := readN_no (fun h => by have := h.2.2; cases this)
    clear HK HWf HZ HL
    go_wp2_with fail
    refine bodyPost_ret (results_tmp2 rfl _ _ _) rfl ?_
    exact ReadR.bad H.out bel
  subst hq
  go_wp2_with fail
  clear f0 f1 f2 f3 f4 fl
  obtain ⟨W0, hW0⟩ : ∃ z, z = W.heap.size := ⟨_, rfl⟩
  have hg0 : w.heap.size < W0 := by rw [hW0]; exact B.lt
  have hs : W0 ≤ W.heap.size := by omega
  clear hW0
  go_loopw [4, 5] (fun ov iv wx => ∃ (i : Nat) (n : List Pn), i ≤ K ∧ iv = .int .i64 (i : Int) ∧ wx.ownsRow W0 47 2 ov i (ptC n) ∧ Hid ((ks.take i).mapM ofSet = some n) ∧ Blk wx w.heap.size [.int .i64 0, .int .i64 16, .bool true, .slice ba N bc, .slice ka K kc] ∧ Below w.heap.size w wx ∧ W0 ≤ wx.heap.size) (fun _ iv _ => K - (intOf iv).toNat)
  case atStart => exact ⟨0, [], by omega, rfl, ⟨rfl, .inl ⟨rfl, rfl⟩⟩, by show List.mapM ofSet (ks.take 0) = some []; simp, B, bel, hs⟩
  case round =>
    clear B bel hs
    obtain ⟨i, n, hi, rfl, own, HM, B, bel, hs⟩ := hrel
    by_cases hil : i < K
    rotate_left
    · have HI : Hid (ks.mapM ofSet = some n) := by have h := HM.out; rw [List.take_of_length_le (by rw [HL.out]; omega)] at h; exact h
      have hn : n.length = i := by have h := own.1; rw [ptC_len] at h; omega
      have g1 : ¬ (i : Int) < (K : Int) := by omega
      obtain ⟨oa, oc, hov⟩ := own_sl own
      subst hov
      have f4 := B.cell 4 _ rfl
      have fl := B.lt
      by_cases h8 : 8 < i
      · have H : Hid (readN (.mk 0 16 true b ks) = .error 2) := readN_long HI.out (by rw [hn]; exact h8)
        have g2 : (8 : Int) < (i : Int) := by omega
        clear hn h8
        go_wp2_with fail
        refine bodyPost_ret (results_tmp2 rfl _ _ _) rfl ?_
        exact ReadR.bad H.out bel
      · have H : Hid (readN (.mk 0 16 true b ks) = .ok n) := readN_ok HI.out (by rw [hn]; exact h8)
        have g2 : ¬ (8 : Int) < (i : Int) := by omega
        have HNew : Hid (NmNew w wr (.slice oa i oc) n) := NmNew.of_own own (by omega)
        clear hn h8 own
        go_wp2_with fail
        refine bodyPost_ret (results_tmp2 rfl _ _ _) rfl ?_
        exact ReadR.ok H.out HNew.out bel
    have g1 : (i : Int) < (K : Int) := by omega
    have g2 : (0 : Int) ≤ (i : Int) := by omega
    have hK6 := HZ.out
    have gi : IntKind.i64.wrap ((i : Int) + 1) = (i : Int) + 1 := by rw [IntKind.wrap_i64]; omega
    obtain ⟨k, hkk⟩ := get_kid (show i < ks.length by rw [HL.out]; exact hil)
    have hwk := HWf.out.get hkk
    obtain ⟨g, o, rfl, hks⟩ := HK.out (by omega)
    obtain ⟨cs1, hc1, ht1⟩ := hks.get hkk
    replace hc1 := hc1.later bel
    replace ht1 := ht1.later bel
    obtain ⟨c1, t1, m1, b1, k1⟩ := k
    rw [TlAt] at ht1
    obtain ⟨bv1, ka1, kc1, hcs1, hb1, x11, x21, hk1⟩ := ht1
    subst hcs1
    obtain ⟨ba1, bc1, rfl, y11, y21, y31⟩ := id hb1
    have HB1 : Hid (Bs wr (.slice ba1 b1.length bc1) b1) := hb1
    have HK1 : Hid (0 < k1.length → ∃ g o, ka1 = some ⟨g, o, none⟩ ∧ KidsAt wr k1 g o) := hk1
    obtain ⟨N1, hN1⟩ : ∃ N, b1.length = N := ⟨_, rfl⟩
    obtain ⟨K1, hK1⟩ : ∃ K, k1.length = K := ⟨_, rfl⟩
    have HN1 : Hid (b1.length = N1) := hN1
    have HL1 : Hid (k1.length = K1) := hK1
    rw [hN1] at HB1 hc1
    rw [hK1] at hc1 HK1
    clear hN1 hK1 hk1 hb1 y11 y21 y31 x11 x21
    have HKK : Hid (ks[i]? = some (.mk c1 t1 m1 b1 k1)) := hkk
    rw [WfT] at hwk
    have hld1 : (loadVar 28 ⟨g, o + i * 5, none⟩).run Try.prog wr = .ok (.agg #[.int .i64 c1, .int .i64 t1, .bool m1, .slice ba1 N1 bc1, .slice ka1 K1 kc1]) wr := tlv_load (by rw [Nat.mul_comm]; exact hc1) rfl
    have st : Below wr.heap.size wr wr := Below.refl _ _
    have f4 := B.cell 4 _ rfl
    have fl := B.lt
    clear hc1 hkk hks
    have hz := zero_tlv.out
    have B1 := Blk.new wr [.int .i64 c1, .int .i64 t1, .bool m1, .slice ba1 N1 bc1, .slice ka1 K1 kc1] 28 wr.heap.size rfl
    replace B := B.alloc (.cells #[.int .i64 c1, .int .i64 t1, .bool m1, .slice ba1 N1 bc1, .slice ka1 K1 kc1] 28)
    have own2 := own.alloc (.cells #[.int .i64 c1, .int .i64 t1, .bool m1, .slice ba1 N1 bc1, .slice ka1 K1 kc1] 28)
    have hs2 : W0 ≤ (wr.alloc (.cells #[.int .i64 c1, .int .i64 t1, .bool m1, .slice ba1 N1 bc1, .slice ka1 K1 kc1] 28)).heap.size := Nat.le_trans hs ((Below.refl _ _).alloc (Nat.le_refl _) _).size
    replace st := below_alloc (o := .cells #[.int .i64 c1, .int .i64 t1, .bool m1, .slice ba1 N1 bc1, .slice ka1 K1 kc1] 28) st
    replace bel := below_alloc (o := .cells #[.int .i64 c1, .int .i64 t1, .bool m1, .slice ba1 N1 bc1, .slice ka1 K1 kc1] 28) bel
    clear own hs
    go_upto_region 8 with (first | ((with_reducible show wpList _ _ _ ({ dst := _, op := .load _ _, type := _, pos := _, after := _, guard := _ } :: _) _ _); refine wpList_load_run (by rfl) (by rfl) (by rfl) hld1 ?_) | ((with_reducible show wpList _ _ _ ({ dst := _, op := .store _ _ _, type := _, pos := _, after := _, guard := _ } :: _) _ _); refine wpList_store_row rfl 28 _ _ rfl wr.heap.size #[.int .i64 c1, .int .i64 t1, .bool m1, .slice ba1 N1 bc1, .slice ka1 K1 kc1] rfl rfl 28 _ (heap_alloc_last _ _) (by rw [size_tlv]; rfl) rfl (by simp [Value.oneCell']) ?_; rw [World.setRow_alloc_new]) | fail)
    clear hz hld1
    obtain ⟨g1, hg9⟩ : ∃ g, g = wr.heap.size := ⟨_, rfl⟩
    rw [← hg9] at B1
    generalize wr.alloc (.cells #[.int .i64 c1, .int .i64 t1, .bool m1, .slice ba1 N1 bc1, .slice ka1 K1 kc1] 28) = V1 at *
    rw [← hg9]
    clear hg9
    have own := own2
    have hs := hs2
    clear own2 hs2
    clear f4 fl
    have f0 := B1.cell 0 _ rfl
    have f1 := B1.cell 1 _ rfl
    have f2 := B1.cell 2 _ rfl
    have f4 := B1.cell 4 _ rfl
    have fl := B1.lt
    by_cases hq : c1 = 0
    rotate_left
    · have d1 : (c1 == 0) = false := by rw [beq_eq_false_iff_ne]; exact hq
      have d2 : (c1 != 0) = true := by rw [bne, d1]; rfl
      have HQ : Hid (¬ c1 = 0) := hq
      clear hq
      have H : Hid (readN (.mk 0 16 true b ks) = .error 7) := readN_kid HKK.out (ofSet_a (fun h => HQ.out h.1))
      clear HK HWf HZ HKK own hs
      go_wp2_with fail
      refine bodyPost_ret (results_tmp2 rfl _ _ _) rfl ?_
      exact ReadR.bad H.out bel
    subst hq
    by_cases hq : t1 = 17
    rotate_left
    · have d1 : (t1 == 17) = false := by rw [beq_eq_false_iff_ne]; exact hq
      have d2 : (t1 != 17) = true := by rw [bne, d1]; rfl
      have HQ : Hid (¬ t1 = 17) := hq
      clear hq
      have H : Hid (readN (.mk 0 16 true b ks) = .error 7) := readN_kid HKK.out (ofSet_a (fun h => HQ.out h.2.1))
      clear HK HWf HZ HKK own hs
      go_wp2_with fail
      refine bodyPost_ret (results_tmp2 rfl _ _ _) rfl ?_
      exact ReadR.bad H.out bel
    subst hq
    by_cases hq : m1 = true
    rotate_left
    · have hq2 : m1 = false := by cases m1 with
        | true => first | rfl | exact absurd rfl hq
        | false => first | rfl | exact absurd rfl hq
      subst hq2
      clear hq
      have H : Hid (readN (.mk 0 16 true b ks) = .error 7) := readN_kid HKK.out (ofSet_a (fun h => by have := h.2.2.1; cases this))
      clear HK HWf HZ HKK own hs
      go_wp2_with fail
      refine bodyPost_ret (results_tmp2 rfl _ _ _) rfl ?_
      exact ReadR.bad H.out bel
    subst hq
    by_cases hq : K1 = 1
    rotate_left
    · have d1 : ((K1 : Int) == 1) = false := by rw [beq_eq_false_iff_ne]; omega
      have d2 : ((K1 : Int) != 1) = true := by rw [bne, d1]; rfl
      have HQ : Hid (¬ K1 = 1) := hq
      clear hq
      have H : Hid (readN (.mk 0 16 true b ks) = .error 7) := readN_kid HKK.out (ofSet_a (fun h => HQ.out (by rw [← HL1.out]; exact h.2.2.2)))
      clear HK HWf HZ HKK own hs
      go_wp2_with fail
      refine bodyPost_ret (results_tmp2 rfl _ _ _) rfl ?_
      exact ReadR.bad H.out bel
    subst hq
    obtain ⟨k9, rfl⟩ : ∃ k, k1 = [k] := List.length_eq_one_iff.1 HL1.out
    obtain ⟨g1b, o1b, rfl, hks⟩ := HK1.out (by omega)
    rw [KidsAt] at hks
    obtain ⟨⟨cs2, hc2, ht2⟩, -⟩ := hks
    replace hc2 := hc2.later st
    replace ht2 := ht2.later st
    have hwl := hwk.2.2.2
    rw [WfL] at hwl
    replace hwl := hwl.1
    clear HK1
    obtain ⟨c2, t2, m2, b2, k2⟩ := k9
    rw [TlAt] at ht2
    obtain ⟨bv2, ka2, kc2, hcs2, hb2, x12, x22, hk2⟩ := ht2
    subst hcs2
    obtain ⟨ba2, bc2, rfl, y12, y22, y32⟩ := id hb2
    have HB2 : Hid (Bs V1 (.slice ba2 b2.length bc2) b2) := hb2
    have HK2 : Hid (0 < k2.length → ∃ g o, ka2 = some ⟨g, o, none⟩ ∧ KidsAt V1 k2 g o) := hk2
    obtain ⟨N2, hN2⟩ : ∃ N, b2.length = N := ⟨_, rfl⟩
    obtain ⟨K2, hK2⟩ : ∃ K, k2.length = K := ⟨_, rfl⟩
    have HN2 : Hid (b2.length = N2) := hN2
    have HL2 : Hid (k2.length = K2) := hK2
    rw [hN2] at HB2 hc2
    rw [hK2] at hc2 HK2
    clear hN2 hK2 hk2 hb2 y12 y22 y32 x12 x22
    rw [WfT] at hwl
    have hld2 : (loadVar 28 ⟨g1b, o1b, none⟩).run Try.prog V1 = .ok (.agg #[.int .i64 c2, .int .i64 t2, .bool m2, .slice ba2 N2 bc2, .slice ka2 K2 kc2]) V1 := tlv_load hc2 rfl
    clear hc2 st
    have st : Below V1.heap.size V1 V1 := Below.refl _ _
    have hz := zero_tlv.out
    have B2 := Blk.new V1 [.int .i64 c2, .int .i64 t2, .bool m2, .slice ba2 N2 bc2, .slice ka2 K2 kc2] 28 V1.heap.size rfl
    replace B := B.alloc (.cells #[.int .i64 c2, .int .i64 t2, .bool m2, .slice ba2 N2 bc2, .slice ka2 K2 kc2] 28)
    replace B1 := B1.alloc (.cells #[.int .i64 c2, .int .i64 t2, .bool m2, .slice ba2 N2 bc2, .slice ka2 K2 kc2] 28)
    have own2 := own.alloc (.cells #[.int .i64 c2, .int .i64 t2, .bool m2, .slice ba2 N2 bc2, .slice ka2 K2 kc2] 28)
    have hs2 : W0 ≤ (V1.alloc (.cells #[.int .i64 c2, .int .i64 t2, .bool m2, .slice ba2 N2 bc2, .slice ka2 K2 kc2] 28)).heap.size := Nat.le_trans hs ((Below.refl _ _).alloc (Nat.le_refl _) _).size
    replace st := below_alloc (o := .cells #[.int .i64 c2, .int .i64 t2, .bool m2, .slice ba2 N2 bc2, .slice ka2 K2 kc2] 28) st
    replace bel := below_alloc (o := .cells #[.int .i64 c2, .int .i64 t2, .bool m2, .slice ba2 N2 bc2, .slice ka2 K2 kc2] 28) bel
    clear own hs
    go_upto_region 11 with (first | ((with_reducible show wpList _ _ _ ({ dst := _, op := .load _ _, type := _, pos := _, after := _, guard := _ } :: _) _ _); refine wpList_load_run (by rfl) (by rfl) (by rfl) hld2 ?_) | ((with_reducible show wpList _ _ _ ({ dst := _, op := .store _ _ _, type := _, pos := _, after := _, guard := _ } :: _) _ _); refine wpList_store_row rfl 28 _ _ rfl V1.heap.size #[.int .i64 c2, .int .i64 t2, .bool m2, .slice ba2 N2 bc2, .slice ka2 K2 kc2] rfl rfl 28 _ (heap_alloc_last _ _) (by rw [size_tlv]; rfl) rfl (by simp [Value.oneCell']) ?_; rw [World.setRow_alloc_new]) | fail)
    clear hz hld2
    obtain ⟨g2, hg9⟩ : ∃ g, g = V1.heap.size := ⟨_, rfl⟩
    rw [← hg9] at B2
    generalize V1.alloc (.cells #[.int .i64 c2, .int .i64 t2, .bool m2, .slice ba2 N2 bc2, .slice ka2 K2 kc2] 28) = V2 at *
    rw [← hg9]
    clear hg9
    have own := own2
    have hs := hs2
    clear own2 hs2
    clear f0 f1 f2 f4 fl
    have f0 := B2.cell 0 _ rfl
    have f1 := B2.cell 1 _ rfl
    have f2 := B2.cell 2 _ rfl
    have f4 := B2.cell 4 _ rfl
    have fl := B2.lt
    by_cases hq : c2 = 0
    rotate_left
    · have d1 : (c2 == 0) = false := by rw [beq_eq_false_iff_ne]; exact hq
      have d2 : (c2 != 0) = true := by rw [bne, d1]; rfl
      have HQ : Hid (¬ c2 = 0) := hq
      clear hq
      have H : Hid (readN (.mk 0 16 true b ks) = .error 7) := readN_kid HKK.out (ofSet_b (fun h => HQ.out h.1))
      clear HK HWf HZ HKK own hs
      go_wp2_with fail
      refine bodyPost_ret (results_tmp2 rfl _ _ _) rfl ?_
      exact ReadR.bad H.out bel
    subst hq
    by_cases hq : t2 = 16
    rotate_left
    · have d1 : (t2 == 16) = false := by rw [beq_eq_false_iff_ne]; exact hq
      have d2 : (t2 != 16) = true := by rw [bne, d1]; rfl
      have HQ : Hid (¬ t2 = 16) := hq
      clear hq
      have H : Hid (readN (.mk 0 16 true b ks) = .error 7) := readN_kid HKK.out (ofSet_b (fun h => HQ.out h.2.1))
      clear HK HWf HZ HKK own hs
      go_wp2_with fail
      refine bodyPost_ret (results_tmp2 rfl _ _ _) rfl ?_
      exact ReadR.bad H.out bel
    subst hq
    by_cases hq : m2 = true
    rotate_left
    · have hq2 : m2 = false := by cases m2 with
        | true => first | rfl | exact absurd rfl hq
        | false => first | rfl | exact absurd rfl hq
      subst hq2
      clear hq
      have H : Hid (readN (.mk 0 16 true b ks) = .error 7) := readN_kid HKK.out (ofSet_b (fun h => by have := h.2.2.1; cases this))
      clear HK HWf HZ HKK own hs
      go_wp2_with fail
      refine bodyPost_ret (results_tmp2 rfl _ _ _) rfl ?_
      exact ReadR.bad H.out bel
    subst hq
    by_cases hq : K2 = 2
    rotate_left
    · have d1 : ((K2 : Int) == 2) = false := by rw [beq_eq_false_iff_ne]; omega
      have d2 : ((K2 : Int) != 2) = true := by rw [bne, d1]; rfl
      have HQ : Hid (¬ K2 = 2) := hq
      clear hq
      have H : Hid (readN (.mk 0 16 true b ks) = .error 7) := readN_kid HKK.out (ofSet_b (fun h => HQ.out (by rw [← HL2.out]; exact h.2.2.2)))
      clear HK HWf HZ HKK own hs
      go_wp2_with fail
      refine bodyPost_ret (results_tmp2 rfl _ _ _) rfl ?_
      exact ReadR.bad H.out bel
    subst hq
    obtain ⟨p9, q9, rfl⟩ : ∃ p q, k2 = [p, q] := two_of HL2.out
    obtain ⟨g2b, o2b, rfl, hks⟩ := HK2.out (by omega)
    rw [KidsAt, KidsAt] at hks
    obtain ⟨⟨cs3, hc3, ht3⟩, ⟨cs4, hc4, ht4⟩, -⟩ := hks
    replace hc3 := hc3.later st
    replace ht3 := ht3.later st
    replace hc4 := hc4.later st
    replace ht4 := ht4.later st
    have hwo := hwl.2.2.2
    rw [WfL, WfL] at hwo
    obtain ⟨hw3, hw4, -⟩ := hwo
    clear HK2 hwl
    obtain ⟨c3, t3, m3, b3, k3⟩ := p9
    rw [TlAt] at ht3
    obtain ⟨bv3, ka3, kc3, hcs3, hb3, x13, x23, hk3⟩ := ht3
    subst hcs3
    obtain ⟨ba3, bc3, rfl, y13, y23, y33⟩ := id hb3
    have HB3 : Hid (Bs V2 (.slice ba3 b3.length bc3) b3) := hb3
    have HK3 : Hid (0 < k3.length → ∃ g o, ka3 = some ⟨g, o, none⟩ ∧ KidsAt V2 k3 g o) := hk3
    obtain ⟨N3, hN3⟩ : ∃ N, b3.length = N := ⟨_, rfl⟩
    obtain ⟨K3, hK3⟩ : ∃ K, k3.length = K := ⟨_, rfl⟩
    have HN3 : Hid (b3.length = N3) := hN3
    have HL3 : Hid (k3.length = K3) := hK3
    rw [hN3] at HB3 hc3
    rw [hK3] at hc3 HK3
    clear hN3 hK3 hk3 hb3 y13 y23 y33 x13 x23
    obtain ⟨c4, t4, m4, b4, k4⟩ := q9
    rw [TlAt] at ht4
    obtain ⟨bv4, ka4, kc4, hcs4, hb4, x14, x24, hk4⟩ := ht4
    subst hcs4
    obtain ⟨ba4, bc4, rfl, y14, y24, y34⟩ := id hb4
    have HB4 : Hid (Bs V2 (.slice ba4 b4.length bc4) b4) := hb4
    have HK4 : Hid (0 < k4.length → ∃ g o, ka4 = some ⟨g, o, none⟩ ∧ KidsAt V2 k4 g o) := hk4
    obtain ⟨N4, hN4⟩ : ∃ N, b4.length = N := ⟨_, rfl⟩
    obtain ⟨K4, hK4⟩ : ∃ K, k4.length = K := ⟨_, rfl⟩
    have HN4 : Hid (b4.length = N4) := hN4
    have HL4 : Hid (k4.length = K4) := hK4
    rw [hN4] at HB4 hc4
    rw [hK4] at hc4 HK4
    clear hN4 hK4 hk4 hb4 y14 y24 y34 x14 x24
    rw [WfT] at hw3 hw4
    have HY3 : Hid (byt b3) := hw3.2.2.1
    have HY4 : Hid (byt b4) := hw4.2.2.1
    have hld3 : (loadVar 28 ⟨g2b, o2b, none⟩).run Try.prog V2 = .ok (.agg #[.int .i64 c3, .int .i64 t3, .bool m3, .slice ba3 N3 bc3, .slice ka3 K3 kc3]) V2 := tlv_load hc3 rfl
    have HC4 : Hid (CsAt V2 g2b (o2b + 5) [.int .i64 c4, .int .i64 t4, .bool m4, .slice ba4 N4 bc4, .slice ka4 K4 kc4]) := hc4
    clear hc3 hc4 st hw3 hw4 HK3 HK4
    have st : Below V2.heap.size V2 V2 := Below.refl _ _
    have hz := zero_tlv.out
    have B3 := Blk.new V2 [.int .i64 c3, .int .i64 t3, .bool m3, .slice ba3 N3 bc3, .slice ka3 K3 kc3] 28 V2.heap.size rfl
    replace B := B.alloc (.cells #[.int .i64 c3, .int .i64 t3, .bool m3, .slice ba3 N3 bc3, .slice ka3 K3 kc3] 28)
    replace B1 := B1.alloc (.cells #[.int .i64 c3, .int .i64 t3, .bool m3, .slice ba3 N3 bc3, .slice ka3 K3 kc3] 28)
    replace B2 := B2.alloc (.cells #[.int .i64 c3, .int .i64 t3, .bool m3, .slice ba3 N3 bc3, .slice ka3 K3 kc3] 28)
    have own2 := own.alloc (.cells #[.int .i64 c3, .int .i64 t3, .bool m3, .slice ba3 N3 bc3, .slice ka3 K3 kc3] 28)
    have hs2 : W0 ≤ (V2.alloc (.cells #[.int .i64 c3, .int .i64 t3, .bool m3, .slice ba3 N3 bc3, .slice ka3 K3 kc3] 28)).heap.size := Nat.le_trans hs ((Below.refl _ _).alloc (Nat.le_refl _) _).size
    replace st := below_alloc (o := .cells #[.int .i64 c3, .int .i64 t3, .bool m3, .slice ba3 N3 bc3, .slice ka3 K3 kc3] 28) st
    replace bel := below_alloc (o := .cells #[.int .i64 c3, .int .i64 t3, .bool m3, .slice ba3 N3 bc3, .slice ka3 K3 kc3] 28) bel
    clear own hs
    go_upto_region 14 with (first | ((with_reducible show wpList _ _ _ ({ dst := _, op := .load _ _, type := _, pos := _, after := _, guard := _ } :: _) _ _); refine wpList_load_run (by rfl) (by rfl) (by rfl) hld3 ?_) | ((with_reducible show wpList _ _ _ ({ dst := _, op := .store _ _ _, type := _, pos := _, after := _, guard := _ } :: _) _ _); refine wpList_store_row rfl 28 _ _ rfl V2.heap.size #[.int .i64 c3, .int .i64 t3, .bool m3, .slice ba3 N3 bc3, .slice ka3 K3 kc3] rfl rfl 28 _ (heap_alloc_last _ _) (by rw [size_tlv]; rfl) rfl (by simp [Value.oneCell']) ?_; rw [World.setRow_alloc_new]) | fail)
    clear hz hld3
    obtain ⟨g3, hg9⟩ : ∃ g, g = V2.heap.size := ⟨_, rfl⟩
    rw [← hg9] at B3
    generalize V2.alloc (.cells #[.int .i64 c3, .int .i64 t3, .bool m3, .slice ba3 N3 bc3, .slice ka3 K3 kc3] 28) = V3 at *
    rw [← hg9]
    clear hg9
    have own := own2
    have hs := hs2
    clear own2 hs2
    have hld4 : (loadVar 28 ⟨g2b, o2b + 5, none⟩).run Try.prog V3 = .ok (.agg #[.int .i64 c4, .int .i64 t4, .bool m4, .slice ba4 N4 bc4, .slice ka4 K4 kc4]) V3 := tlv_load (HC4.out.later st) rfl
    clear f0 f1 f2 f4 fl
    have f4 := B2.cell 4 _ rfl
    have fl := B2.lt
    have hz := zero_tlv.out
    have B4 := Blk.new V3 [.int .i64 c4, .int .i64 t4, .bool m4, .slice ba4 N4 bc4, .slice ka4 K4 kc4] 28 V3.heap.size rfl
    replace B := B.alloc (.cells #[.int .i64 c4, .int .i64 t4, .bool m4, .slice ba4 N4 bc4, .slice ka4 K4 kc4] 28)
    replace B1 := B1.alloc (.cells #[.int .i64 c4, .int .i64 t4, .bool m4, .slice ba4 N4 bc4, .slice ka4 K4 kc4] 28)
    replace B2 := B2.alloc (.cells #[.int .i64 c4, .int .i64 t4, .bool m4, .slice ba4 N4 bc4, .slice ka4 K4 kc4] 28)
    replace B3 := B3.alloc (.cells #[.int .i64 c4, .int .i64 t4, .bool m4, .slice ba4 N4 bc4, .slice ka4 K4 kc4] 28)
    have own2 := own.alloc (.cells #[.int .i64 c4, .int .i64 t4, .bool m4, .slice ba4 N4 bc4, .slice ka4 K4 kc4] 28)
    have hs2 : W0 ≤ (V3.alloc (.cells #[.int .i64 c4, .int .i64 t4, .bool m4, .slice ba4 N4 bc4, .slice ka4 K4 kc4] 28)).heap.size := Nat.le_trans hs ((Below.refl _ _).alloc (Nat.le_refl _) _).size
    replace st := below_alloc (o := .cells #[.int .i64 c4, .int .i64 t4, .bool m4, .slice ba4 N4 bc4, .slice ka4 K4 kc4] 28) st
    replace bel := below_alloc (o := .cells #[.int .i64 c4, .int .i64 t4, .bool m4, .slice ba4 N4 bc4, .slice ka4 K4 kc4] 28) bel
    clear own hs
    go_upto_region 15 with (first | ((with_reducible show wpList _ _ _ ({ dst := _, op := .load _ _, type := _, pos := _, after := _, guard := _ } :: _) _ _); refine wpList_load_run (by rfl) (by rfl) (by rfl) hld4 ?_) | ((with_reducible show wpList _ _ _ ({ dst := _, op := .store _ _ _, type := _, pos := _, after := _, guard := _ } :: _) _ _); refine wpList_store_row rfl 28 _ _ rfl V3.heap.size #[.int .i64 c4, .int .i64 t4, .bool m4, .slice ba4 N4 bc4, .slice ka4 K4 kc4] rfl rfl 28 _ (heap_alloc_last _ _) (by rw [size_tlv]; rfl) rfl (by simp [Value.oneCell']) ?_; rw [World.setRow_alloc_new]) | fail)
    clear hz hld4
    obtain ⟨g4, hg9⟩ : ∃ g, g = V3.heap.size := ⟨_, rfl⟩
    rw [← hg9] at B4
    generalize V3.alloc (.cells #[.int .i64 c4, .int .i64 t4, .bool m4, .slice ba4 N4 bc4, .slice ka4 K4 kc4] 28) = V4 at *
    rw [← hg9]
    clear hg9
    have own := own2
    have hs := hs2
    clear own2 hs2
    clear f4 fl B1 B2
    have f0 := B4.cell 0 _ rfl
    have f1 := B4.cell 1 _ rfl
    have f2 := B4.cell 2 _ rfl
    have f3 := B4.cell 3 _ rfl
    have fl := B4.lt
    go_wp2_with fail
    refine (r13_Text (HB4.out.later st) HY4.out).mono ?_
    rintro e w5 ⟨hok, hbad⟩
    have HX : ∃ (tv : ByteArray) (cc : Int), e = .returned (.tuple #[.string tv, .int .i64 cc]) ∧ w5 = V4 ∧ (textB b4 = true ∧ cc = 0 ∧ tv = strOfNums b4 ∨ textB b4 = false ∧ ¬ cc = 0) := by
      cases ht : textP b4 with
      | ok m5 =>
        obtain ⟨rfl, rfl⟩ := hok m5 ht
        exact ⟨_, 0, rfl, rfl, .inl ⟨by unfold textB; rw [ht], rfl, by rw [text_same ht]⟩⟩
      | error c5 =>
        obtain ⟨rfl, rfl⟩ := hbad c5 ht
        exact ⟨_, _, rfl, rfl, .inr ⟨by unfold textB; rw [ht], by rcases text_err ht with rfl | rfl <;> decide⟩⟩
    obtain ⟨tv, cc, rfl, hw5, hcase⟩ := HX
    rw [hw5]
    clear hok hbad hw5
    have HCs : Hid _ := hcase
    clear hcase
    have e0 := B3.cell 0 _ rfl
    have e1 := B3.cell 1 _ rfl
    have e2 := B3.cell 2 _ rfl
    have e3 := B3.cell 3 _ rfl
    have el := B3.lt
    by_cases hq : c3 = 0
    rotate_left
    · have d1 : (c3 == 0) = false := by rw [beq_eq_false_iff_ne]; exact hq
      have d2 : (c3 != 0) = true := by rw [bne, d1]; rfl
      have HQ : Hid (¬ c3 = 0) := hq
      clear hq
      have H : Hid (readN (.mk 0 16 true b ks) = .error 7) := readN_kid HKK.out (ofSet_c (fun h => HQ.out h.1))
      clear HK HWf HZ HKK own hs
      go_wp2_with fail
      refine bodyPost_ret (results_tmp2 rfl _ _ _) rfl ?_
      exact ReadR.bad H.out bel
    subst hq
    by_cases hq : t3 = 6
    rotate_left
    · have d1 : (t3 == 6) = false := by rw [beq_eq_false_iff_ne]; exact hq
      have d2 : (t3 != 6) = true := by rw [bne, d1]; rfl
      have HQ : Hid (¬ t3 = 6) := hq
      clear hq
      have H : Hid (readN (.mk 0 16 true b ks) = .error 7) := readN_kid HKK.out (ofSet_c (fun h => HQ.out h.2.1))
      clear HK HWf HZ HKK own hs
      go_wp2_with fail
      refine bodyPost_ret (results_tmp2 rfl _ _ _) rfl ?_
      exact ReadR.bad H.out bel
    subst hq
    by_cases hq : m3 = false
    rotate_left
    · have hq2 : m3 = true := by cases m3 with
        | true => first | rfl | exact absurd rfl hq
        | false => first | rfl | exact absurd rfl hq
      subst hq2
      clear hq
      have H : Hid (readN (.mk 0 16 true b ks) = .error 7) := readN_kid HKK.out (ofSet_c (fun h => by have := h.2.2.1; cases this))
      clear HK HWf HZ HKK own hs
      go_wp2_with fail
      refine bodyPost_ret (results_tmp2 rfl _ _ _) rfl ?_
      exact ReadR.bad H.out bel
    subst hq
    by_cases hq : N3 = 3
    rotate_left
    · have d1 : ((N3 : Int) == 3) = false := by rw [beq_eq_false_iff_ne]; omega
      have d2 : ((N3 : Int) != 3) = true := by rw [bne, d1]; rfl
      have HQ : Hid (¬ N3 = 3) := hq
      clear hq
      have H : Hid (readN (.mk 0 16 true b ks) = .error 7) := readN_kid HKK.out (ofSet_c (fun h => HQ.out (by rw [← HN3.out]; exact h.2.2.2.1)))
      clear HK HWf HZ HKK own hs
      go_wp2_with fail
      refine bodyPost_ret (results_tmp2 rfl _ _ _) rfl ?_
      exact ReadR.bad H.out bel
    subst hq
    obtain ⟨x0, hx0⟩ : ∃ x, b3.getD 0 0 = x := ⟨_, rfl⟩
    obtain ⟨y0, hy0⟩ : ∃ x, b3.getD 1 0 = x := ⟨_, rfl⟩
    obtain ⟨z0, hz0⟩ : ∃ x, b3.getD 2 0 = x := ⟨_, rfl⟩
    have hzb := HY3.out 2
    rw [hz0] at hzb
    have gz : IntKind.i64.wrap z0 = z0 := by rw [IntKind.wrap_i64]; omega
    obtain ⟨a9, c9, e9, -, -, h9⟩ := HB3.out.later st
    obtain ⟨b9, o9, ea9, l9, hc9⟩ := h9 (by rw [HN3.out]; omega)
    simp only [Value.slice.injEq] at e9
    obtain ⟨rfl, -, -⟩ := e9
    subst ea9
    have u0 := hc9 0 (by rw [HN3.out]; omega)
    have u1 := hc9 1 (by rw [HN3.out]; omega)
    have u2 := hc9 2 (by rw [HN3.out]; omega)
    rw [hx0, Nat.add_zero] at u0
    rw [hy0] at u1
    rw [hz0] at u2
    have HX0 : Hid (b3.getD 0 0 = x0) := hx0
    have HY0 : Hid (b3.getD 1 0 = y0) := hy0
    have HZ0 : Hid (b3.getD 2 0 = z0) := hz0
    clear hx0 hy0 hz0 h9 hc9
    by_cases hq : x0 = 85
    rotate_left
    · have d1 : (x0 == 85) = false := by rw [beq_eq_false_iff_ne]; exact hq
      have d2 : (x0 != 85) = true := by rw [bne, d1]; rfl
      have HQ : Hid (¬ x0 = 85) := hq
      clear hq
      have H : Hid (readN (.mk 0 16 true b ks) = .error 7) := readN_kid HKK.out (ofSet_c (fun h => HQ.out (by rw [← HX0.out]; exact h.2.2.2.2.1)))
      clear HK HWf HZ HKK own hs
      go_wp2_with fail
      refine bodyPost_ret (results_tmp2 rfl _ _ _) rfl ?_
      exact ReadR.bad H.out bel
    subst hq
    by_cases hq : y0 = 4
    rotate_left
    · have d1 : (y0 == 4) = false := by rw [beq_eq_false_iff_ne]; exact hq
      have d2 : (y0 != 4) = true := by rw [bne, d1]; rfl
      have HQ : Hid (¬ y0 = 4) := hq
      clear hq
      have H : Hid (readN (.mk 0 16 true b ks) = .error 7) := readN_kid HKK.out (ofSet_c (fun h => HQ.out (by rw [← HY0.out]; exact h.2.2.2.2.2.1)))
      clear HK HWf HZ HKK own hs
      go_wp2_with fail
      refine bodyPost_ret (results_tmp2 rfl _ _ _) rfl ?_
      exact ReadR.bad H.out bel
    subst hq
    by_cases hq : c4 = 0
    rotate_left
    · have d1 : (c4 == 0) = false := by rw [beq_eq_false_iff_ne]; exact hq
      have d2 : (c4 != 0) = true := by rw [bne, d1]; rfl
      have HQ : Hid (¬ c4 = 0) := hq
      clear hq
      have H : Hid (readN (.mk 0 16 true b ks) = .error 7) := readN_kid HKK.out (ofSet_c (fun h => HQ.out h.2.2.2.2.2.2.1))
      clear HK HWf HZ HKK own hs
      go_wp2_with fail
      refine bodyPost_ret (results_tmp2 rfl _ _ _) rfl ?_
      exact ReadR.bad H.out bel
    subst hq
    by_cases hq : t4 = 12
    rotate_left
    · have d1 : (t4 == 12) = false := by rw [beq_eq_false_iff_ne]; exact hq
      have d2 : (t4 != 12) = true := by rw [bne, d1]; rfl
      have HQ : Hid (¬ t4 = 12) := hq
      clear hq
      have H : Hid (readN (.mk 0 16 true b ks) = .error 7) := readN_kid HKK.out (ofSet_c (fun h => HQ.out h.2.2.2.2.2.2.2.1))
      clear HK HWf HZ HKK own hs
      go_wp2_with fail
      refine bodyPost_ret (results_tmp2 rfl _ _ _) rfl ?_
      exact ReadR.bad H.out bel
    subst hq
    by_cases hq : m4 = false
    rotate_left
    · have hq2 : m4 = true := by cases m4 with
        | true => first | rfl | exact absurd rfl hq
        | false => first | rfl | exact absurd rfl hq
      subst hq2
      clear hq
      have H : Hid (readN (.mk 0 16 true b ks) = .error 7) := readN_kid HKK.out (ofSet_c (fun h => by have := h.2.2.2.2.2.2.2.2.1; cases this))
      clear HK HWf HZ HKK own hs
      go_wp2_with fail
      refine bodyPost_ret (results_tmp2 rfl _ _ _) rfl ?_
      exact ReadR.bad H.out bel
    subst hq
    by_cases hq : cc = 0
    rotate_left
    · have d1 : (cc == 0) = false := by rw [beq_eq_false_iff_ne]; exact hq
      have d2 : (cc != 0) = true := by rw [bne, d1]; rfl
      have HQ : Hid (textB b4 = false) := by
        rcases HCs.out with h | h
        · exact absurd h.2.1 hq
        · exact h.1
      clear hq HCs
      have H : Hid (readN (.mk 0 16 true b ks) = .error 7) := readN_kid HKK.out (ofSet_c (fun h => by have h9 := h.2.2.2.2.2.2.2.2.2; rw [part_kt, HQ.out, Bool.and_false] at h9; cases h9))
      clear HK HWf HZ HKK own hs
      go_wp2_with fail
      refine bodyPost_ret (results_tmp2 rfl _ _ _) rfl ?_
      exact ReadR.bad H.out bel
    have HTx : Hid (textB b4 = true ∧ tv = strOfNums b4) := by
      rcases HCs.out with h | h
      · exact ⟨h.1, h.2.2⟩
      · exact absurd hq h.2
    subst hq
    clear HCs
    go_wp2_with fail
    refine con_kind16.mono ?_
    rintro e w6 ⟨rfl, hw6⟩
    rw [hw6]
    clear hw6
    cases hkd : kindN z0 with
    | false =>
      have HQ : Hid (kindN z0 = false) := hkd
      clear hkd
      have H : Hid (readN (.mk 0 16 true b ks) = .error 7) := readN_kid HKK.out (ofSet_c (fun h => by have h9 := h.2.2.2.2.2.2.2.2.2; rw [part_kt, HZ0.out, HQ.out] at h9; cases h9))
      clear HK HWf HZ HKK own hs
      go_wp2_with fail
      refine bodyPost_ret (results_tmp2 rfl _ _ _) rfl ?_
      exact ReadR.bad H.out bel
    | true =>
      have HOf : Hid (ofSet (.mk 0 17 true b1 [.mk 0 16 true b2 [.mk 0 6 false b3 k3, .mk 0 12 false b4 k4]]) = some (z0, b4)) := by rw [← HZ0.out]; exact ofSet_ok (b := b1) (b1 := b2) (k2 := k3) (k3 := k4) HN3.out HX0.out HY0.out (by rw [part_kt, HZ0.out, hkd, HTx.out.1]; rfl)
      have HNx : Hid ((ks.take (i + 1)).mapM ofSet = some (n ++ [(z0, b4)])) := mapM_next HM.out HKK.out HOf.out
      obtain ⟨rfl⟩ : tv = strOfNums b4 := HTx.out.2
      clear hkd HOf HTx
      obtain ⟨jp, hjp, hp0, hp1, hp2⟩ := info_partsD info_pt
      obtain ⟨s9, hs9⟩ : ∃ s, strOfNums b4 = s := ⟨_, rfl⟩
      have HS9 : Hid (strOfNums b4 = s9) := hs9
      rw [hs9]
      have HF : Hid _ := fill_pt (a := .int .i64 z0) (b := .string s9)
      have hzp := zero_pt
      have HNews : Hid (∀ j u, [Value.int .i64 z0, .string s9][j]? = some u → (V4.alloc (.cells #[.int .i64 z0, .string s9] 47)).cell? ((⟨V4.heap.size, 0, none⟩ : Addr).add j) = some u) := fun j u hu => by
        have e : (⟨V4.heap.size, 0, none⟩ : Addr).add j = ⟨V4.heap.size, 0 + j, none⟩ := by unfold Addr.add; split <;> simp_all
        rw [e, Nat.zero_add]
        exact (Blk.new V4 [Value.int .i64 z0, .string s9] 47 V4.heap.size rfl).cell j u hu
      clear hs9
      go_wp2_with (first | ((with_reducible show wpList _ _ _ ({ dst := _, op := .buildSlice _ _ _, type := _, pos := _, after := _, guard := _ } :: _) _ _); refine Go.wpList_buildSlice rfl 23 47 1 _ rfl #[.int .i64 z0, .string s9] jp _ Try.underlying23 hjp hp0 (by rw [hp1]; decide) (by rw [hp1]; decide) (by rw [hp1]; refine (congrArg _ (?_ : _ = [(0, Value.agg #[.int .i64 z0, .string s9])])).trans HF.out; kernel_rfl) ?_) | (at_builtin; refine wpList_append_lies _ (by rfl) _ _ _ (by rfl) W0 47 jp _ 2 24 Try.underlying23 hjp hp0 hp1 hp2 rfl (by omega) _ i (ptC n) (by rfl) (own.alloc _) ⟨V4.heap.size, 0, none⟩ 1 1 [.int .i64 z0, .string s9] (by rfl) rfl HNews.out (by simp [Value.oneCell']) (by omega) (by unfold maxLen; omega) (by omega) (by simp; omega) (V4.heap.size + 1) (by simp) ?_; intro gg cap1 wy hownz hgrow hat hltz) | fail)
      have bel10 := Below.grown (below_alloc (o := .cells #[.int .i64 z0, .string s9] 47) bel) hgrow (by have := bel.size; simp; omega) (fun k hk => by have := (own_geK own hk).1; omega)
      have B10 := (B.alloc (.cells #[.int .i64 z0, .string s9] 47)).grown hgrow (fun k hk e => by have := (own_geK own hk).1; omega)
      have HSz : Hid (W0 ≤ wy.heap.size) := by have hgz := hgrow.size; show _ ≤ _; simp at hgz; omega
      have HPt : Hid (ptC n ++ [.int .i64 z0, .string s9] = ptC (n ++ [(z0, b4)])) := by show _ = _; rw [ptC_app, ← HS9.out]; rfl
      rw [HPt.out] at hownz
      clear hgrow hat hltz own B B3 B4 bel
      go_roundw
      case rel => exact ⟨i + 1, n ++ [(z0, b4)], by omega, by go_num, hownz, HNx, B10, bel10, HSz.out⟩
      case measure => simp [intOf]; omega
end Go.Proofs.Ytineihnipidmfaa
