/- The law DerWrites. -/
import Derived.Test.YthbncblhkohomaaDoorRows
import Derived.Test.YthbncblhkohomaaDoorDrSmall
import Derived.Deep.WholeRow
import Derived.Deep.RegionHeld3
import Derived.Deep.DeepCutAuto
import Derived.Deep.DeepFit
namespace Go.Proofs.YthbncblhkohomaaDoor
open Go.RowKit

set_option linter.unusedSimpArgs false in
set_option maxRecDepth 100000 in
set_option maxHeartbeats 2000000 in
theorem law_derWrites (T : Tl) (cs : List Value) (w : World) (G : GlsE w) (h : TlAt w T cs) (hw : WfT T) :
    Calls Tryd.prog 4 #[.agg cs.toArray] w fun e w' => e = .returned (.bool true) ∧ Below w.heap.size w w' := by
  have HW : Hid (WfT T) := hw
  have HL : Hid (cs.length = 5) := h.five
  have HG : Hid (GlsE w) := G
  have B0 := Blk.new w cs 26 w.heap.size rfl
  have bel : Below w.heap.size w (w.alloc (.cells cs.toArray 26)) := (Below.refl _ _).alloc (Nat.le_refl _) _
  have TA := h.later bel
  clear h hw G
  go_enter Tryd.func4, Tryd.ntmps4
  go_upto_region 1 with fail
  generalize w.alloc (.cells cs.toArray 26) = W at *
  go_wp2_with fail
  refine (con_up (HG.out.below bel)).mono ?_
  rintro e w1 ⟨rfl, hb⟩
  replace bel := below_stepD bel hb
  replace TA := TA.later hb
  replace B0 := B0.later hb
  clear hb
  have l0 := B0.lt
  go_wp2_with (first | (refine wpList_load_run (by rfl) (by rfl) (by rfl) (B0.load Tryd.underlying26 rfl size_tlv HL.out) ?_) | fail)
  refine (con_small TA).mono ?_
  rintro e w2 ⟨rfl, hb⟩
  replace bel := below_stepD bel hb
  replace TA := TA.later hb
  replace B0 := B0.later hb
  clear hb l0
  by_cases c1 : 0 ≤ litT T 20000 200
  rotate_left
  · rw [decide_eq_false c1]
    go_wp2_with fail
    go_ret
    exact ⟨rfl, bel⟩
  rw [decide_eq_true c1]
  have hln := litT_len T 20000 200 c1
  have hz1 : szT T ≤ 1099511627776 := by omega
  have hz2 : (bytesT T).length ≤ 1099511627776 := by omega
  have HZ : Hid ((bytesT T).length ≤ 100000) := by show _ ≤ _; omega
  clear hln c1
  have l0 := B0.lt
  go_wp2_with (first | (refine wpList_load_run (by rfl) (by rfl) (by rfl) (B0.load Tryd.underlying26 rfl size_tlv HL.out) ?_) | fail)
  refine (con_Write TA HW.out hz1 hz2).mono ?_
  rintro e w3 ⟨v3, er3, rfl, hwr, hb⟩
  replace bel := below_stepD bel hb
  replace TA := TA.later hb
  replace B0 := B0.later hb
  have HWr : Hid (WrAt w2 w3 T v3 er3) := hwr
  clear hb l0 hwr
  have l0 := B0.lt
  go_wp2_with (first | (refine wpList_load_run (by rfl) (by rfl) (by rfl) (B0.load Tryd.underlying26 rfl size_tlv HL.out) ?_) | fail)
  refine (con_Size TA HW.out hz1 hz2).mono ?_
  rintro e w4 ⟨n4, er4, rfl, hs0, hs1, hb⟩
  have HB4 : Hid (Below w3.heap.size w3 w4) := hb
  have HS0 : Hid _ := hs0
  have HS1 : Hid _ := hs1
  replace bel := below_stepD bel hb
  replace TA := TA.later hb
  replace B0 := B0.later hb
  clear hb l0 hs0 hs1
  have l0 := B0.lt
  go_wp2_with (first | (refine wpList_load_run (by rfl) (by rfl) (by rfl) (B0.load Tryd.underlying26 rfl size_tlv HL.out) ?_) | fail)
  refine (r12_Write (by omega) (fun _ => hz2) TA).mono ?_
  rintro e w5 ⟨v5, rfl, ho, hn, hb⟩
  have hb35 := HB4.out.trans (hb.mono HB4.out.size)
  replace bel := below_stepD bel hb
  clear hb l0 TA B0
  by_cases c2 : wrN T = 0
  · obtain ⟨fr, rfl⟩ := HWr.out.1 c2
    obtain ⟨rfl, rfl⟩ := HS0.out c2
    have b3 := fr.bs.later hb35
    have b5 := Bs.of_own (ho c2)
    have cv1 := conv_any b3
    have cv2 := conv_any b5
    obtain ⟨a5, k5, rfl, _⟩ := b5
    obtain ⟨S, hS⟩ : ∃ S, strOfNums (bytesT T) = S := ⟨_, rfl⟩
    rw [hS] at cv1 cv2
    have hse : (S.toList == S.toList) = true := by simp
    obtain ⟨N, hN⟩ : ∃ N, (bytesT T).length = N := ⟨_, rfl⟩
    rw [hN] at cv2 ⊢
    rw [c2]
    clear fr ho hn hS hb35 b3
    go_wp2_with fail
    refine con_CodeNil.mono ?_
    rintro e w6 ⟨rfl, hw6⟩
    rw [hw6]
    clear hw6
    go_wp2_with fail
    refine con_CodeNil.mono ?_
    rintro e w7 ⟨rfl, hw7⟩
    rw [hw7]
    clear hw7
    go_wp2_with fail
    go_ret
    exact ⟨rfl, bel⟩
  · obtain ⟨b3, rfl⟩ := HWr.out.2 c2
    obtain ⟨rfl, rfl⟩ := HS1.out c2
    obtain rfl := hn c2
    have cv1 := conv_any (b3.later hb35)
    have cv2 := conv_any (bs_noneD w5)
    have hcb : 1 ≤ wrN T ∧ wrN T ≤ 21 := ⟨by omega, by have := wrN_bd T; omega⟩
    obtain ⟨S, hS⟩ : ∃ S, strOfNums [] = S := ⟨_, rfl⟩
    rw [hS] at cv1 cv2
    have hse : (S.toList == S.toList) = true := by simp
    obtain ⟨c, hc⟩ : ∃ c, wrN T = c := ⟨_, rfl⟩
    rw [hc] at hcb ⊢
    clear ho hn hS hb35 hc c2 HWr HS0 HS1
    go_wp2_with fail
    refine (con_CodeOf hcb.1 hcb.2).mono ?_
    rintro e w6 ⟨rfl, hw6⟩
    rw [hw6]
    clear hw6
    go_wp2_with fail
    refine (con_CodeOf hcb.1 hcb.2).mono ?_
    rintro e w7 ⟨rfl, hw7⟩
    rw [hw7]
    clear hw7
    go_wp2_with fail
    go_ret
    exact ⟨by simp, bel⟩
end Go.Proofs.YthbncblhkohomaaDoor
