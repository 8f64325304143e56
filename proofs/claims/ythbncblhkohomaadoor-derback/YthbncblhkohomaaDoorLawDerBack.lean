/- The law DerBack. -/
import Derived.Test.YthbncblhkohomaaDoorRows
import Derived.Test.YthbncblhkohomaaDoorDrSmall
import Derived.Test.YthbncblhkohomaaDoorLawDerOnce
import Derived.Deep.WholeRow
import Derived.Deep.RegionHeld3
import Derived.Deep.DeepCutAuto
import Derived.Deep.DeepFit
namespace Go.Proofs.YthbncblhkohomaaDoor
open Go.RowKit

theorem bs_takeD {w : World} {ao : Option Addr} {n r cap : Nat} {B : List Int} (h : Bs w (.slice ao n cap) B) (hn : B.length = n) (hr : r ≤ n) : Bs w (.slice ao r cap) (B.take r) := by
  obtain ⟨a, c, e, h1, h2, h3⟩ := h
  obtain ⟨rfl, _, rfl⟩ : ao = a ∧ n = B.length ∧ cap = c := by simpa using e
  have el : (B.take r).length = r := by rw [List.length_take]; omega
  refine ⟨ao, cap, by rw [el], h1, by rw [el]; omega, fun h0 => ?_⟩
  rw [el] at h0
  obtain ⟨b, o, rfl, k1, k2⟩ := h3 (by omega)
  refine ⟨b, o, rfl, k1, fun j hj => ?_⟩
  rw [el] at hj
  rw [k2 j (by omega), List.getD_eq_getElem?_getD, List.getD_eq_getElem?_getD, List.getElem?_take, if_pos hj]
theorem pre_take (X : List Int) (r : Nat) : PreAt X 0 (X.take r) := fun j hj => by
  rw [List.length_take] at hj
  rw [Nat.zero_add, List.getD_eq_getElem?_getD, List.getD_eq_getElem?_getD, List.getElem?_take, if_pos (by omega)]
theorem byt_takeD {B : List Int} (h : byt B) (r : Nat) : byt (B.take r) := by
  have := byt_takeP h 0 r
  rwa [List.drop_zero] at this
theorem wr_parts {T : Tl} (h : wrN T = 0) : fineT T = true ∧ depT T ≤ 16 ∧ (bytesT T).length ≤ 1048576 := by
  unfold wrN at h
  split at h
  · rename_i hf
    split at h
    · cases h
    · split at h
      · cases h
      · exact ⟨hf, by omega, by omega⟩
  · cases h
theorem less_bad {T : Tl} (h : wrN T = 0) (hw : WfT T) {n : Nat} (hn : (bytesT T).length = n) : ∃ c p, parseP ((bytesT T).take (n - 1)) = .error (c, p) := by
  obtain ⟨h1, h2, h3⟩ := wr_parts h
  have b2 := bytesT_two T
  cases hp : parseP ((bytesT T).take (n - 1)) with
  | ok U => exact absurd hp (parse_less h1 h2 h3 (byt_takeD (bytesT_byt h1 hw) _) (pre_take _ _) (by rw [List.length_take]; omega) U)
  | error q => exact ⟨q.1, q.2, rfl⟩
set_option linter.unusedSimpArgs false in
set_option maxRecDepth 100000 in
set_option maxHeartbeats 4000000 in
theorem law_derBack (T : Tl) (cs : List Value) (m : Int) (w : World) (G : GlsE w) (h : TlAt w T cs) (hw : WfT T) (hs : SmT T) (hm0 : 0 ≤ m ∧ m < 256) :
    Calls Tryd.prog 7 #[.agg cs.toArray, .int .u8 m] w fun e w' => e = .returned (.bool true) ∧ Below w.heap.size w w' := by
  have HSm : Hid (SmT T) := hs
  clear hs
  have HW : Hid (WfT T) := hw
  have HL : Hid (cs.length = 5) := h.five
  have HG : Hid (GlsE w) := G
  have q0 := eq_nilcode 0
  have q1 := ne_codenil
  have q2 := ne_spotnil
  have q3 := ne_nilnil
  have B0 := Blk.new w cs 26 w.heap.size rfl
  have bel : Below w.heap.size w (w.alloc (.cells cs.toArray 26)) := (Below.refl _ _).alloc (Nat.le_refl _) _
  have TA := h.later bel
  clear h hw G
  go_enter Tryd.func7, Tryd.ntmps7
  go_upto_region 1 with fail
  generalize w.alloc (.cells cs.toArray 26) = W at *
  go_wp2_with fail
  refine (con_up (HG.out.below bel)).mono ?_
  rintro e w1 ⟨rfl, hb⟩
  replace bel := below_stepD bel hb
  replace TA := TA.later hb
  replace B0 := B0.later hb
  clear hb
  have l0 := B0.lt
  go_wp2_with (first | (refine wpList_load_run (by rfl) (by rfl) (by rfl) (B0.load Tryd.underlying26 rfl size_tlv HL.out) ?_) | fail)
  refine (con_small TA).mono ?_
  rintro e w2 ⟨rfl, hb⟩
  replace bel := below_stepD bel hb
  replace TA := TA.later hb
  replace B0 := B0.later hb
  clear hb l0
  have l0 := B0.lt
  by_cases c1 : 0 ≤ litT T 20000 200
  rotate_left
  · rw [decide_eq_false c1]
    go_wp2_with (first | (refine wpList_load_run (by rfl) (by rfl) (by rfl) (B0.load Tryd.underlying26 rfl size_tlv HL.out) ?_) | fail)
    refine (con_WriteAny TA HW.out HSm.out).mono ?_
    rintro e w3 ⟨v3, er3, rfl, her, hb⟩
    replace bel := below_stepD bel hb
    rcases her with rfl | ⟨c, rfl⟩
    · go_wp2_with fail
      go_ret
      exact ⟨rfl, bel⟩
    · go_wp2_with fail
      go_ret
      exact ⟨rfl, bel⟩
  rw [decide_eq_true c1]
  have hln := litT_len T 20000 200 c1
  have hz1 : szT T ≤ 1099511627776 := by omega
  have hz2 : (bytesT T).length ≤ 1099511627776 := by omega
  have HZ : Hid ((bytesT T).length ≤ 100000) := by show _ ≤ _; omega
  clear hln c1
  go_wp2_with (first | (refine wpList_load_run (by rfl) (by rfl) (by rfl) (B0.load Tryd.underlying26 rfl size_tlv HL.out) ?_) | fail)
  refine (con_Write TA HW.out hz1 hz2).mono ?_
  rintro e w3 ⟨v3, er3, rfl, hwr, hb⟩
  replace bel := below_stepD bel hb
  replace TA := TA.later hb
  replace B0 := B0.later hb
  clear hb l0 hz1 hz2
  by_cases c2 : wrN T = 0
  rotate_left
  · obtain ⟨_, rfl⟩ := hwr.2 c2
    obtain ⟨c, hc⟩ : ∃ c, wrN T = c := ⟨_, rfl⟩
    rw [hc]
    clear hc c2 hwr
    go_wp2_with fail
    go_ret
    exact ⟨rfl, bel⟩
  obtain ⟨fr, rfl⟩ := hwr.1 c2
  have bsb := fr.bs
  clear hwr fr
  obtain ⟨hf1, hf2, hf3⟩ := wr_parts c2
  have HP0 : Hid (parseP (bytesT T) = .ok T) := by
    have := parse_of (T := T) (Y := []) hf1 hf2 (by rw [List.append_nil]; exact hf3)
    rw [List.append_nil, if_pos (by rfl)] at this
    exact this
  have HP1 : Hid (parseP (bytesT T ++ [m]) = .error (8, (bytesT T).length)) := by
    have := parse_of (T := T) (Y := [m]) hf1 hf2 (by rw [List.length_append]; have := HZ.out; simp; omega)
    rw [if_neg (by simp)] at this
    exact this
  have HBt : Hid (byt (bytesT T)) := bytesT_byt hf1 HW.out
  have b2 := bytesT_two T
  obtain ⟨N, hN⟩ : ∃ N, (bytesT T).length = N := ⟨_, rfl⟩
  have HLs : Hid (∃ c p, parseP ((bytesT T).take (N - 1)) = .error (c, p)) := less_bad c2 HW.out hN
  obtain ⟨X, hX⟩ : ∃ X, bytesT T = X := ⟨_, rfl⟩
  rw [hX] at HP0 HP1 HBt HLs HZ hN b2 bsb
  rw [hN] at HP1 HZ b2
  have HN : Hid (X.length = N) := hN
  have hz0 := HZ.out
  obtain ⟨a3, k3, rfl, m1, m2, m3⟩ := bsb
  have bsb : Bs w3 (.slice a3 X.length k3) X := ⟨a3, k3, rfl, m1, m2, m3⟩
  clear m3 hf1 hf2 hf3 c2 hX
  rw [hN] at bsb m2 ⊢
  clear hN
  unfold maxLen at m1
  have g2 : ¬ (N : Int) < 2 := by omega
  have hz := zero_tlv.out
  go_wp2_with fail
  refine (con_Parse bsb HBt.out).mono ?_
  rintro e w4 ⟨hok, hbad⟩
  obtain ⟨ca, rfl, hdep, hb⟩ := hok T HP0.out
  replace bel := below_stepD bel hb
  replace TA := TA.later hb
  replace B0 := B0.later hb
  replace bsb := bsb.later hb
  have TB := hdep.now
  have HOca : Hid (OneC ca) := TB.ones
  have HSca : Hid (ca.toArray.size = 5) := by show _ = _; rw [List.size_toArray]; exact TB.five
  have HLca : Hid (ca.length = 5) := TB.five
  clear hok hbad hdep hb
  go_upto_region 9 with (first | (refine wpList_store_row rfl 26 _ _ rfl w4.heap.size ca.toArray rfl rfl 26 _ (heap_alloc_last _ _) (by rw [size_tlv, HSca.out]) (by rw [HSca.out]; rfl) HOca.out ?_; rw [World.setRow_alloc_new]) | fail)
  replace bel := below_alloc (o := .cells ca.toArray 26) bel
  have KBca := Blk.new w4 ca 26 w4.heap.size rfl
  obtain ⟨ga, hgga⟩ : ∃ g, g = w4.heap.size := ⟨_, rfl⟩
  rw [← hgga] at KBca ⊢
  have hbx := (Below.refl _ _).alloc (Nat.le_refl _) (.cells ca.toArray 26) (w := w4) (B := w4.heap.size)
  generalize w4.alloc (.cells ca.toArray 26) = w5 at *
  clear hgga
  replace TA := TA.later hbx
  replace B0 := B0.later hbx
  replace bsb := bsb.later hbx
  replace TB := TB.later hbx
  clear hbx
  have la := KBca.lt
  have l0 := B0.lt
  go_wp2_with (first | (refine wpList_load_run (by rfl) (by rfl) (by rfl) (KBca.load Tryd.underlying26 rfl size_tlv HLca.out) ?_) | (refine wpList_load_run (by rfl) (by rfl) (by rfl) (B0.load Tryd.underlying26 rfl size_tlv HL.out) ?_) | fail)
  refine (r12_Same (szT T) T T _ _ _ (Nat.le_refl _) HW.out HW.out TB TA).mono ?_
  rintro e w6 ⟨rfl, hb⟩
  replace bel := below_stepD bel hb
  replace bsb := bsb.later hb
  rw [sameT_yes (rfl : T = T)]
  clear hb TA TB B0 KBca la l0
  have y1 : IntKind.i64.wrap ((N : Int) - 1) = ((N - 1 : Nat) : Int) := by rw [IntKind.wrap_i64]; omega
  obtain ⟨N1, hN1⟩ : ∃ n, N - 1 = n := ⟨_, rfl⟩
  have bst := bs_takeD bsb HN.out (show N - 1 ≤ N by omega)
  rw [hN1] at y1 bst HLs
  have y2 : (0 : Int) ≤ (N1 : Int) := by omega
  have y3 : N1 ≤ k3 := by omega
  have y4 : (N1 : Int) ≤ (k3 : Int) := by omega
  go_wp2_with fail
  refine (con_Parse bst (byt_takeD HBt.out _)).mono ?_
  rintro e w7 ⟨hok, hbad⟩
  obtain ⟨c7, p7, hp7⟩ := HLs.out
  obtain ⟨cb, er7, rfl, TZ, hE7, _, hb⟩ := hbad c7 p7 hp7
  replace bel := below_stepD bel hb
  replace bsb := bsb.later hb
  have HOcb : Hid (OneC cb) := TZ.ones
  have HScb : Hid (cb.toArray.size = 5) := by show _ = _; rw [List.size_toArray]; exact TZ.five
  clear hok hbad hb TZ hp7 bst y1 y2 y3 y4 hN1
  go_upto_region 11 with (first | (refine wpList_store_row rfl 26 _ _ rfl w7.heap.size cb.toArray rfl rfl 26 _ (heap_alloc_last _ _) (by rw [size_tlv, HScb.out]) (by rw [HScb.out]; rfl) HOcb.out ?_; rw [World.setRow_alloc_new]) | fail)
  replace bel := below_alloc (o := .cells cb.toArray 26) bel
  have KBcb := Blk.new w7 cb 26 w7.heap.size rfl
  obtain ⟨gb, hggb⟩ : ∃ g, g = w7.heap.size := ⟨_, rfl⟩
  rw [← hggb] at KBcb ⊢
  have hbx := (Below.refl _ _).alloc (Nat.le_refl _) (.cells cb.toArray 26) (w := w7) (B := w7.heap.size)
  generalize w7.alloc (.cells cb.toArray 26) = w8 at *
  clear hggb
  replace bsb := bsb.later hbx
  replace hE7 := hE7.later hbx
  clear hbx KBcb
  have own0 := own_lits w8 [] 0 w8.heap.size rfl (Nat.le_refl _) (by decide)
  have hbl : Below w8.heap.size w8 (w8.alloc (.cells #[] 5)) := (Below.refl _ _).alloc (Nat.le_refl _) _
  have bsb8 := bsb.later hbl
  have hm := bs_one
  have HXl : Hid (X.length = N) := HN
  obtain ⟨s8, hs8⟩ : ∃ s, s = w8.heap.size := ⟨_, rfl⟩
  go_wp2_with (first | (at_builtin; refine wpList_append_bs (by rfl) _ _ (by rfl) w8.heap.size _ 0 [] (by rfl) own0 _ X (by rfl) bsb8 (by rw [HN.out]; omega) (by simp) ?_; intro v9 w9 own9 hgrow9 hat9; rw [Nat.zero_add, List.nil_append, HN.out] at own9; have hb9 := below_own (base := w8.heap.size) hbl hgrow9 (by simp) (fun g hg => own_geD own0 hg) (Nat.le_refl _); have sz9 := hb9.size; have b91 := bs_one w9 m) | (at_builtin; refine wpList_append_bs (by rfl) _ _ (by rfl) w8.heap.size _ N X (by rfl) (own9.alloc _) _ [m] (by rfl) b91 (by simp; omega) (by simp; omega) ?_; intro v10 w10 own10 hgrow10 hat10; have hb10 := below_own (base := w8.heap.size) (hb9.alloc sz9 (.cells #[.int .u8 m] 5)) hgrow10 (by simp; omega) (fun g hg => own_geD own9 hg) (Nat.le_refl _); have bs10 := Bs.of_own own10; clear own10 hgrow10 hat10) | fail)
  refine (con_Parse bs10 (byt_catP HBt.out (byt_consP hm0 byt_nilP))).mono ?_
  rintro e w11 ⟨hok, hbad⟩
  obtain ⟨cc, er11, rfl, TZ, hE, _, hb⟩ := hbad 8 N HP1.out
  replace bel := below_stepD (below_stepD bel hb10) hb
  replace hE7 := (hE7.later hb10).later hb
  have HOcc : Hid (OneC cc) := TZ.ones
  have HScc : Hid (cc.toArray.size = 5) := by show _ = _; rw [List.size_toArray]; exact TZ.five
  clear hok hbad hb TZ bs10 hb10 hb9 own9 hgrow9 hat9 b91 own0 hbl bsb bsb8
  go_upto_region 12 with (first | (refine wpList_store_row rfl 26 _ _ rfl w11.heap.size cc.toArray rfl rfl 26 _ (heap_alloc_last _ _) (by rw [size_tlv, HScc.out]) (by rw [HScc.out]; rfl) HOcc.out ?_; rw [World.setRow_alloc_new]) | fail)
  replace bel := below_alloc (o := .cells cc.toArray 26) bel
  have KBcc := Blk.new w11 cc 26 w11.heap.size rfl
  obtain ⟨gc, hggc⟩ : ∃ g, g = w11.heap.size := ⟨_, rfl⟩
  rw [← hggc] at KBcc ⊢
  have hbx := (Below.refl _ _).alloc (Nat.le_refl _) (.cells cc.toArray 26) (w := w11) (B := w11.heap.size)
  generalize w11.alloc (.cells cc.toArray 26) = w12 at *
  clear hggc
  replace hE7 := hE7.later hbx
  replace hE := hE.later hbx
  clear hbx KBcc hz
  obtain ⟨sg, rfl, SB⟩ := hE.spot (by decide)
  have g5 : ¬ (N : Int) = 1048576 := by omega
  rcases hE7 with ⟨_, rfl⟩ | ⟨_, s7, rfl, _⟩
  all_goals (go_wp2_with fail
             refine (con_IsSpot (HG.out.below bel) SB).mono ?_
             rintro e w13 ⟨rfl, hb⟩
             replace bel := below_stepD bel hb
             go_wp2_with fail
             go_ret
             exact ⟨by simp, bel⟩)
end Go.Proofs.YthbncblhkohomaaDoor
