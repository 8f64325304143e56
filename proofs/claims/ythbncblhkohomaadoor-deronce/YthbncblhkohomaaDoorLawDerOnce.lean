/- The law DerOnce. -/
import Derived.Test.YthbncblhkohomaaDoorRows
import Derived.Test.YthbncblhkohomaaDoorDrUp
import Derived.Deep.WholeRow
import Derived.Deep.RegionHeld3
import Derived.Deep.DeepCutAuto
import Derived.Deep.DeepFit
namespace Go.Proofs.YthbncblhkohomaaDoor
open Go.RowKit

theorem ne_codenil (d : Int) (w : World) : (binOp .neq 28 (.iface 36 (.int .i64 d)) .nilIface).run Tryd.prog w = .ok (.bool true) w := by kernel_rfl
theorem ne_spotnil (a : Addr) (w : World) : (binOp .neq 28 (.iface 55 (.pointer (some a))) .nilIface).run Tryd.prog w = .ok (.bool true) w := by kernel_rfl
theorem ne_nilnil (w : World) : (binOp .neq 28 .nilIface .nilIface).run Tryd.prog w = .ok (.bool false) w := by kernel_rfl
mutual
theorem szT_by : ∀ T : Tl, szT T ≤ (bytesT T).length
  | .mk c t m b ks => by
    have := szL_by ks
    have := lenB_pos (b ++ bytesL ks).length
    rw [szT, bytesT_len, List.length_append]
    omega
theorem szL_by : ∀ ks : List Tl, szL ks ≤ (bytesL ks).length
  | [] => by rw [szL]; omega
  | k :: ks => by
    have := szT_by k
    have := szL_by ks
    rw [szL, bytesL, List.length_append]
    omega
end
set_option linter.unusedSimpArgs false in
set_option maxRecDepth 100000 in
set_option maxHeartbeats 2000000 in
theorem law_derOnce (v : Value) (B : List Int) (w : World) (G : GlsE w) (hv : Bs w v B) (b : byt B) :
    Calls Tryd.prog 8 #[v] w fun e w' => e = .returned (.bool true) ∧ Below w.heap.size w w' := by
  have hz := zero_tlv.out
  have HV : Hid (Bs w v B) := hv
  have HB : Hid (byt B) := b
  have HG : Hid (GlsE w) := G
  obtain ⟨ao, cap, rfl, h1, h2, h3⟩ := hv
  clear h3 b G
  unfold maxLen at h1
  have q := eq_nilcode 0
  go_enter Tryd.func8, Tryd.ntmps8
  go_wp2_with fail
  refine (con_up HG.out).mono ?_
  rintro e w1 ⟨rfl, bel⟩
  by_cases c1 : 100000 < B.length
  · have g1 : (100000 : Int) < ((B.length : Nat) : Int) := by omega
    go_wp2_with fail
    go_ret
    exact ⟨rfl, bel⟩
  have g1 : ¬ (100000 : Int) < ((B.length : Nat) : Int) := by omega
  go_wp2_with fail
  refine (con_Parse (HV.out.later bel) HB.out).mono ?_
  rintro e w2 ⟨hok, hbad⟩
  cases hp : parseP B with
  | error qe =>
    obtain ⟨c, p⟩ := qe
    obtain ⟨ca, er, rfl, TA, hEr, _, hb⟩ := hbad c p hp
    replace bel := below_stepD bel hb
    have HOca : Hid (OneC ca) := TA.ones
    have HSca : Hid (ca.toArray.size = 5) := by show _ = _; rw [List.size_toArray]; exact TA.five
    clear hok hbad hb
    go_upto_region 5 with (first | (refine wpList_store_row rfl 26 _ _ rfl w2.heap.size ca.toArray rfl rfl 26 _ (heap_alloc_last _ _) (by rw [size_tlv, HSca.out]) (by rw [HSca.out]; rfl) HOca.out ?_; rw [World.setRow_alloc_new]) | fail)
    replace bel := below_alloc (o := .cells ca.toArray 26) bel
    have KBca := Blk.new w2 ca 26 w2.heap.size rfl
    obtain ⟨ga, hgga⟩ : ∃ g, g = w2.heap.size := ⟨_, rfl⟩
    rw [← hgga] at KBca ⊢
    have hbx := (Below.refl _ _).alloc (Nat.le_refl _) (.cells ca.toArray 26) (w := w2) (B := w2.heap.size)
    generalize w2.alloc (.cells ca.toArray 26) = w3 at *
    clear hgga
    replace hEr := hEr.later hbx
    clear hbx hz
    have q1 := ne_codenil
    have q2 := ne_spotnil
    rcases hEr with ⟨_, rfl⟩ | ⟨_, sg, rfl, _⟩
    · go_wp2_with fail
      go_ret
      exact ⟨rfl, bel⟩
    · go_wp2_with fail
      go_ret
      exact ⟨rfl, bel⟩
  | ok T =>
    obtain ⟨ca, rfl, hdep, hb⟩ := hok T hp
    replace bel := below_stepD bel hb
    have TA := hdep.now
    have hpo := parse_ok HB.out hp
    have HOca : Hid (OneC ca) := TA.ones
    have HSca : Hid (ca.toArray.size = 5) := by show _ = _; rw [List.size_toArray]; exact TA.five
    have HLca : Hid (ca.length = 5) := TA.five
    clear hok hbad hdep hb
    go_upto_region 5 with (first | (refine wpList_store_row rfl 26 _ _ rfl w2.heap.size ca.toArray rfl rfl 26 _ (heap_alloc_last _ _) (by rw [size_tlv, HSca.out]) (by rw [HSca.out]; rfl) HOca.out ?_; rw [World.setRow_alloc_new]) | fail)
    replace bel := below_alloc (o := .cells ca.toArray 26) bel
    have KBca := Blk.new w2 ca 26 w2.heap.size rfl
    obtain ⟨ga, hgga⟩ : ∃ g, g = w2.heap.size := ⟨_, rfl⟩
    rw [← hgga] at KBca ⊢
    have hbx := (Below.refl _ _).alloc (Nat.le_refl _) (.cells ca.toArray 26) (w := w2) (B := w2.heap.size)
    generalize w2.alloc (.cells ca.toArray 26) = w3 at *
    clear hgga
    replace TA := TA.later hbx
    clear hbx hz
    have q1 := ne_nilnil
    have la := KBca.lt
    have HW0 : Hid (wrN T = 0) := wr_fine hpo.2.1 hpo.2.2.1 (by rw [hpo.1]; omega)
    have HBy : Hid (bytesT T = B) := hpo.1
    go_wp2_with (first | (refine wpList_load_run (by rfl) (by rfl) (by rfl) (KBca.load Tryd.underlying26 rfl size_tlv HLca.out) ?_) | fail)
    refine (con_Write TA hpo.2.2.2.1 (by have := szT_by T; rw [hpo.1] at this; omega) (by rw [hpo.1]; omega)).mono ?_
    rintro e w4 ⟨v4, er4, rfl, hwr, hb⟩
    replace bel := below_stepD bel hb
    obtain ⟨hfr, rfl⟩ := hwr.1 HW0.out
    have bs4 := hfr.bs
    rw [HBy.out] at bs4
    have bsb := HV.out.later bel
    have cv1 := conv_any bs4
    have cv2 := conv_any bsb
    obtain ⟨a4, k4, rfl, _⟩ := bs4
    have hse : ((strOfNums B).toList == (strOfNums B).toList) = true := by simp
    clear hwr hfr hb bsb
    go_wp2_with fail
    go_ret
    exact ⟨rfl, bel⟩
end Go.Proofs.YthbncblhkohomaaDoor
