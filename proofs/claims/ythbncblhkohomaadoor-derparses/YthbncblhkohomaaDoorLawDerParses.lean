/- The law DerParses. -/
import Derived.Test.YthbncblhkohomaaDoorRows
import Derived.Test.YthbncblhkohomaaDoorDrUp
import Derived.Test.YthbncblhkohomaaDoorDrParse
import Derived.Test.YthbncblhkohomaaDoorDrSame
import Derived.Deep.WholeRow
import Derived.Deep.RegionHeld3
import Derived.Deep.DeepCutAuto
import Derived.Deep.DeepFit
namespace Go.Proofs.YthbncblhkohomaaDoor
open Go.RowKit

set_option linter.unusedSimpArgs false in
set_option maxRecDepth 100000 in
set_option maxHeartbeats 2000000 in
theorem law_derParses (v : Value) (B : List Int) (w : World) (G : GlsE w) (hv : Bs w v B) (b : byt B) :
    Calls Tryd.prog 3 #[v] w fun e w' => e = .returned (.bool true) ∧ Below w.heap.size w w' := by
  have hz := zero_tlv.out
  have HV : Hid (Bs w v B) := hv
  have HB : Hid (byt B) := b
  have HG : Hid (GlsE w) := G
  obtain ⟨ao, cap, rfl, h1, h2, h3⟩ := hv
  clear h3 b G
  unfold maxLen at h1
  have q := eq_nilcode 0
  go_enter Tryd.func3, Tryd.ntmps3
  go_wp2_with fail
  refine (con_up HG.out).mono ?_
  rintro e w1 ⟨rfl, bel⟩
  by_cases c1 : 100000 < B.length ∧ B.length ≤ 1048576
  · have g1 : (100000 : Int) < ((B.length : Nat) : Int) := by omega
    have g2 : ((B.length : Nat) : Int) ≤ 1048576 := by omega
    go_wp2_with fail
    go_ret
    exact ⟨rfl, bel⟩
  have HR : Hid (((100000 : Int) < ((B.length : Nat) : Int)) → ¬ ((B.length : Nat) : Int) ≤ 1048576) := fun h => by omega
  have hstop : ∀ (P : Prop), ((¬ (100000 : Int) < ((B.length : Nat) : Int)) → P) → ((100000 : Int) < ((B.length : Nat) : Int) → ¬ ((B.length : Nat) : Int) ≤ 1048576 → P) → P := fun P f g => by
    by_cases h : (100000 : Int) < ((B.length : Nat) : Int)
    · exact g h (HR.out h)
    · exact f h
  refine hstop _ (fun g1 => ?_) (fun g1 g2 => ?_)
  all_goals clear hstop HR c1
  · go_wp2_with fail
    refine (con_Parse (HV.out.later bel) HB.out).mono ?_
    rintro e w2 ⟨hok, hbad⟩
    cases hp : parseP B with
    | ok T =>
      obtain ⟨ca, rfl, hdep, hb⟩ := hok T hp
      replace bel := below_stepD bel hb
      have TA := hdep.now
      have hpo := parse_ok HB.out hp
      have HOca : Hid (OneC ca) := TA.ones
      have HSca : Hid (ca.toArray.size = 5) := by show _ = _; rw [List.size_toArray]; exact TA.five
      have HLca : Hid (ca.length = 5) := TA.five
      clear hok hbad hdep hb
      go_upto_region 5 with (first | (refine wpList_store_row rfl 26 _ _ rfl w2.heap.size ca.toArray rfl rfl 26 _ (heap_alloc_last _ _) (by rw [size_tlv, HSca.out]) (by rw [HSca.out]; rfl) HOca.out ?_; rw [World.setRow_alloc_new]) | fail)
      replace bel := below_alloc (o := .cells ca.toArray 26) bel
      have KBca := Blk.new w2 ca 26 w2.heap.size rfl
      obtain ⟨ga, hgga⟩ : ∃ g, g = w2.heap.size := ⟨_, rfl⟩
      rw [← hgga] at KBca ⊢
      have hbx := (Below.refl _ _).alloc (Nat.le_refl _) (.cells ca.toArray 26) (w := w2) (B := w2.heap.size)
      generalize w2.alloc (.cells ca.toArray 26) = w3 at *
      clear hgga
      replace TA := TA.later hbx
      clear hbx
      go_wp2_with fail
      refine (r12_Parse (HV.out.later bel) HB.out).mono ?_
      rintro e w4 ⟨hok, hbad⟩
      obtain ⟨cb, rfl, hdep, hb⟩ := hok T hp
      replace bel := below_stepD bel hb
      replace TA := TA.later hb
      replace KBca := KBca.later hb
      have TB := hdep.now
      have HOcb : Hid (OneC cb) := TB.ones
      have HScb : Hid (cb.toArray.size = 5) := by show _ = _; rw [List.size_toArray]; exact TB.five
      have HLcb : Hid (cb.length = 5) := TB.five
      clear hok hbad hdep hb hp
      go_upto_region 6 with (first | (refine wpList_store_row rfl 26 _ _ rfl w4.heap.size cb.toArray rfl rfl 26 _ (heap_alloc_last _ _) (by rw [size_tlv, HScb.out]) (by rw [HScb.out]; rfl) HOcb.out ?_; rw [World.setRow_alloc_new]) | fail)
      replace bel := below_alloc (o := .cells cb.toArray 26) bel
      have KBcb := Blk.new w4 cb 26 w4.heap.size rfl
      obtain ⟨gb, hggb⟩ : ∃ g, g = w4.heap.size := ⟨_, rfl⟩
      rw [← hggb] at KBcb ⊢
      have hbx := (Below.refl _ _).alloc (Nat.le_refl _) (.cells cb.toArray 26) (w := w4) (B := w4.heap.size)
      generalize w4.alloc (.cells cb.toArray 26) = w5 at *
      clear hggb
      replace TA := TA.later hbx
      replace KBca := KBca.later hbx
      replace TB := TB.later hbx
      clear hbx hz
      have la := KBca.lt
      have lb := KBcb.lt
      go_wp2_with (first | (refine wpList_load_run (by rfl) (by rfl) (by rfl) (KBca.load Tryd.underlying26 rfl size_tlv HLca.out) ?_) | (refine wpList_load_run (by rfl) (by rfl) (by rfl) (KBcb.load Tryd.underlying26 rfl size_tlv HLcb.out) ?_) | fail)
      refine (r12_Same (szT T) T T _ _ _ (Nat.le_refl _) hpo.2.2.2.1 hpo.2.2.2.1 TA TB).mono ?_
      rintro e w6 ⟨rfl, hb⟩
      replace bel := below_stepD bel hb
      have hs := sameT_yes (rfl : T = T)
      rw [hs]
      go_wp2_with fail
      go_ret
      exact ⟨rfl, bel⟩
    | error qe =>
      obtain ⟨c, p⟩ := qe
      obtain ⟨ca, er, rfl, TA, hEr, _, hb⟩ := hbad c p hp
      replace bel := below_stepD bel hb
      have hcb := parse_bad hp
      have HOca : Hid (OneC ca) := TA.ones
      have HSca : Hid (ca.toArray.size = 5) := by show _ = _; rw [List.size_toArray]; exact TA.five
      have HLca : Hid (ca.length = 5) := TA.five
      clear hok hbad hb
      go_upto_region 5 with (first | (refine wpList_store_row rfl 26 _ _ rfl w2.heap.size ca.toArray rfl rfl 26 _ (heap_alloc_last _ _) (by rw [size_tlv, HSca.out]) (by rw [HSca.out]; rfl) HOca.out ?_; rw [World.setRow_alloc_new]) | fail)
      replace bel := below_alloc (o := .cells ca.toArray 26) bel
      have KBca := Blk.new w2 ca 26 w2.heap.size rfl
      obtain ⟨ga, hgga⟩ : ∃ g, g = w2.heap.size := ⟨_, rfl⟩
      rw [← hgga] at KBca ⊢
      have hbx := (Below.refl _ _).alloc (Nat.le_refl _) (.cells ca.toArray 26) (w := w2) (B := w2.heap.size)
      generalize w2.alloc (.cells ca.toArray 26) = w3 at *
      clear hgga
      replace TA := TA.later hbx
      replace hEr := hEr.later hbx
      clear hbx
      go_wp2_with fail
      refine (r12_Parse (HV.out.later bel) HB.out).mono ?_
      rintro e w4 ⟨hok, hbad⟩
      obtain ⟨rfl, hb⟩ := hbad c p hp
      replace bel := below_stepD bel hb
      replace TA := TA.later hb
      replace KBca := KBca.later hb
      replace hEr := hEr.later hb
      clear hok hbad hb hp
      have gc : ¬ (c : Int) = 0 := by omega
      have HAt : Hid (c = 2 → atP c p = -1) := fun h => by unfold atP; rw [if_pos h]
      have HAt2 : Hid (¬ c = 2 → atP c p = (p : Int)) := fun h => by unfold atP; rw [if_neg h]
      obtain ⟨at_, hat⟩ : ∃ z, atP c p = z := ⟨_, rfl⟩
      rw [hat] at HAt HAt2 ⊢
      clear hat
      go_upto_region 6 with (first | (refine wpList_store_row rfl 26 _ _ rfl w4.heap.size #[.int .i64 0, .int .i64 0, .bool false, .slice none 0 0, .slice none 0 0] rfl rfl 26 _ (heap_alloc_last _ _) (by rw [size_tlv]; rfl) rfl (by simp [Value.oneCell']) ?_; rw [World.setRow_alloc_new]) | fail)
      replace bel := below_alloc (o := .cells #[.int .i64 0, .int .i64 0, .bool false, .slice none 0 0, .slice none 0 0] 26) bel
      have hbx := (Below.refl _ _).alloc (Nat.le_refl _) (.cells #[.int .i64 0, .int .i64 0, .bool false, .slice none 0 0, .slice none 0 0] 26) (w := w4) (B := w4.heap.size)
      generalize w4.alloc (.cells #[.int .i64 0, .int .i64 0, .bool false, .slice none 0 0, .slice none 0 0] 26) = w5 at *
      replace TA := TA.later hbx
      replace KBca := KBca.later hbx
      replace hEr := hEr.later hbx
      clear hbx hz
      have la := KBca.lt
      have hT : TlAt w5 nilT ca := TA
      go_wp2_with (first | (refine wpList_load_run (by rfl) (by rfl) (by rfl) (KBca.load Tryd.underlying26 rfl size_tlv HLca.out) ?_) | fail)
      refine (r12_Same (szT nilT) nilT nilT _ _ [.int .i64 0, .int .i64 0, .bool false, .slice none 0 0, .slice none 0 0] (Nat.le_refl _) nilT_wf nilT_wf hT (nilT_at _)).mono ?_
      rintro e w6 ⟨rfl, hb⟩
      replace bel := below_stepD bel hb
      replace hEr := hEr.later hb
      clear hb hT TA KBca la
      have hs := sameT_yes (rfl : nilT = nilT)
      rw [hs]
      clear hs
      by_cases c2 : c = 2
      · subst c2
        have ha := HAt.out rfl
        subst ha
        obtain rfl := hEr.long
        go_wp2_with fail
        refine (con_CodeOf (c := 2) (by decide) (by decide)).mono ?_
        rintro e w7 ⟨rfl, hw⟩
        rw [hw]
        go_wp2_with fail
        go_ret
        exact ⟨rfl, bel⟩
      · have ha := HAt2.out c2
        subst ha
        obtain ⟨sg, rfl, SB⟩ := hEr.spot c2
        have ga : ¬ (p : Int) < 0 := by omega
        go_wp2_with fail
        refine (con_IsSpot (HG.out.below bel) SB).mono ?_
        rintro e w7 ⟨rfl, hb⟩
        replace bel := below_stepD bel hb
        go_wp2_with fail
        go_ret
        exact ⟨by simp, bel⟩
  · go_wp2_with fail
    refine (con_Parse (HV.out.later bel) HB.out).mono ?_
    rintro e w2 ⟨hok, hbad⟩
    cases hp : parseP B with
    | ok T =>
      obtain ⟨ca, rfl, hdep, hb⟩ := hok T hp
      replace bel := below_stepD bel hb
      have TA := hdep.now
      have hpo := parse_ok HB.out hp
      have HOca : Hid (OneC ca) := TA.ones
      have HSca : Hid (ca.toArray.size = 5) := by show _ = _; rw [List.size_toArray]; exact TA.five
      have HLca : Hid (ca.length = 5) := TA.five
      clear hok hbad hdep hb
      go_upto_region 5 with (first | (refine wpList_store_row rfl 26 _ _ rfl w2.heap.size ca.toArray rfl rfl 26 _ (heap_alloc_last _ _) (by rw [size_tlv, HSca.out]) (by rw [HSca.out]; rfl) HOca.out ?_; rw [World.setRow_alloc_new]) | fail)
      replace bel := below_alloc (o := .cells ca.toArray 26) bel
      have KBca := Blk.new w2 ca 26 w2.heap.size rfl
      obtain ⟨ga, hgga⟩ : ∃ g, g = w2.heap.size := ⟨_, rfl⟩
      rw [← hgga] at KBca ⊢
      have hbx := (Below.refl _ _).alloc (Nat.le_refl _) (.cells ca.toArray 26) (w := w2) (B := w2.heap.size)
      generalize w2.alloc (.cells ca.toArray 26) = w3 at *
      clear hgga
      replace TA := TA.later hbx
      clear hbx
      go_wp2_with fail
      refine (r12_Parse (HV.out.later bel) HB.out).mono ?_
      rintro e w4 ⟨hok, hbad⟩
      obtain ⟨cb, rfl, hdep, hb⟩ := hok T hp
      replace bel := below_stepD bel hb
      replace TA := TA.later hb
      replace KBca := KBca.later hb
      have TB := hdep.now
      have HOcb : Hid (OneC cb) := TB.ones
      have HScb : Hid (cb.toArray.size = 5) := by show _ = _; rw [List.size_toArray]; exact TB.five
      have HLcb : Hid (cb.length = 5) := TB.five
      clear hok hbad hdep hb hp
      go_upto_region 6 with (first | (refine wpList_store_row rfl 26 _ _ rfl w4.heap.size cb.toArray rfl rfl 26 _ (heap_alloc_last _ _) (by rw [size_tlv, HScb.out]) (by rw [HScb.out]; rfl) HOcb.out ?_; rw [World.setRow_alloc_new]) | fail)
      replace bel := below_alloc (o := .cells cb.toArray 26) bel
      have KBcb := Blk.new w4 cb 26 w4.heap.size rfl
      obtain ⟨gb, hggb⟩ : ∃ g, g = w4.heap.size := ⟨_, rfl⟩
      rw [← hggb] at KBcb ⊢
      have hbx := (Below.refl _ _).alloc (Nat.le_refl _) (.cells cb.toArray 26) (w := w4) (B := w4.heap.size)
      generalize w4.alloc (.cells cb.toArray 26) = w5 at *
      clear hggb
      replace TA := TA.later hbx
      replace KBca := KBca.later hbx
      replace TB := TB.later hbx
      clear hbx hz
      have la := KBca.lt
      have lb := KBcb.lt
      go_wp2_with (first | (refine wpList_load_run (by rfl) (by rfl) (by rfl) (KBca.load Tryd.underlying26 rfl size_tlv HLca.out) ?_) | (refine wpList_load_run (by rfl) (by rfl) (by rfl) (KBcb.load Tryd.underlying26 rfl size_tlv HLcb.out) ?_) | fail)
      refine (r12_Same (szT T) T T _ _ _ (Nat.le_refl _) hpo.2.2.2.1 hpo.2.2.2.1 TA TB).mono ?_
      rintro e w6 ⟨rfl, hb⟩
      replace bel := below_stepD bel hb
      have hs := sameT_yes (rfl : T = T)
      rw [hs]
      go_wp2_with fail
      go_ret
      exact ⟨rfl, bel⟩
    | error qe =>
      obtain ⟨c, p⟩ := qe
      obtain ⟨ca, er, rfl, TA, hEr, _, hb⟩ := hbad c p hp
      replace bel := below_stepD bel hb
      have hcb := parse_bad hp
      have HOca : Hid (OneC ca) := TA.ones
      have HSca : Hid (ca.toArray.size = 5) := by show _ = _; rw [List.size_toArray]; exact TA.five
      have HLca : Hid (ca.length = 5) := TA.five
      clear hok hbad hb
      go_upto_region 5 with (first | (refine wpList_store_row rfl 26 _ _ rfl w2.heap.size ca.toArray rfl rfl 26 _ (heap_alloc_last _ _) (by rw [size_tlv, HSca.out]) (by rw [HSca.out]; rfl) HOca.out ?_; rw [World.setRow_alloc_new]) | fail)
      replace bel := below_alloc (o := .cells ca.toArray 26) bel
      have KBca := Blk.new w2 ca 26 w2.heap.size rfl
      obtain ⟨ga, hgga⟩ : ∃ g, g = w2.heap.size := ⟨_, rfl⟩
      rw [← hgga] at KBca ⊢
      have hbx := (Below.refl _ _).alloc (Nat.le_refl _) (.cells ca.toArray 26) (w := w2) (B := w2.heap.size)
      generalize w2.alloc (.cells ca.toArray 26) = w3 at *
      clear hgga
      replace TA := TA.later hbx
      replace hEr := hEr.later hbx
      clear hbx
      go_wp2_with fail
      refine (r12_Parse (HV.out.later bel) HB.out).mono ?_
      rintro e w4 ⟨hok, hbad⟩
      obtain ⟨rfl, hb⟩ := hbad c p hp
      replace bel := below_stepD bel hb
      replace TA := TA.later hb
      replace KBca := KBca.later hb
      replace hEr := hEr.later hb
      clear hok hbad hb hp
      have gc : ¬ (c : Int) = 0 := by omega
      have HAt : Hid (c = 2 → atP c p = -1) := fun h => by unfold atP; rw [if_pos h]
      have HAt2 : Hid (¬ c = 2 → atP c p = (p : Int)) := fun h => by unfold atP; rw [if_neg h]
      obtain ⟨at_, hat⟩ : ∃ z, atP c p = z := ⟨_, rfl⟩
      rw [hat] at HAt HAt2 ⊢
      clear hat
      go_upto_region 6 with (first | (refine wpList_store_row rfl 26 _ _ rfl w4.heap.size #[.int .i64 0, .int .i64 0, .bool false, .slice none 0 0, .slice none 0 0] rfl rfl 26 _ (heap_alloc_last _ _) (by rw [size_tlv]; rfl) rfl (by simp [Value.oneCell']) ?_; rw [World.setRow_alloc_new]) | fail)
      replace bel := below_alloc (o := .cells #[.int .i64 0, .int .i64 0, .bool false, .slice none 0 0, .slice none 0 0] 26) bel
      have hbx := (Below.refl _ _).alloc (Nat.le_refl _) (.cells #[.int .i64 0, .int .i64 0, .bool false, .slice none 0 0, .slice none 0 0] 26) (w := w4) (B := w4.heap.size)
      generalize w4.alloc (.cells #[.int .i64 0, .int .i64 0, .bool false, .slice none 0 0, .slice none 0 0] 26) = w5 at *
      replace TA := TA.later hbx
      replace KBca := KBca.later hbx
      replace hEr := hEr.later hbx
      clear hbx hz
      have la := KBca.lt
      have hT : TlAt w5 nilT ca := TA
      go_wp2_with (first | (refine wpList_load_run (by rfl) (by rfl) (by rfl) (KBca.load Tryd.underlying26 rfl size_tlv HLca.out) ?_) | fail)
      refine (r12_Same (szT nilT) nilT nilT _ _ [.int .i64 0, .int .i64 0, .bool false, .slice none 0 0, .slice none 0 0] (Nat.le_refl _) nilT_wf nilT_wf hT (nilT_at _)).mono ?_
      rintro e w6 ⟨rfl, hb⟩
      replace bel := below_stepD bel hb
      replace hEr := hEr.later hb
      clear hb hT TA KBca la
      have hs := sameT_yes (rfl : nilT = nilT)
      rw [hs]
      clear hs
      by_cases c2 : c = 2
      · subst c2
        have ha := HAt.out rfl
        subst ha
        obtain rfl := hEr.long
        go_wp2_with fail
        refine (con_CodeOf (c := 2) (by decide) (by decide)).mono ?_
        rintro e w7 ⟨rfl, hw⟩
        rw [hw]
        go_wp2_with fail
        go_ret
        exact ⟨rfl, bel⟩
      · have ha := HAt2.out c2
        subst ha
        obtain ⟨sg, rfl, SB⟩ := hEr.spot c2
        have ga : ¬ (p : Int) < 0 := by omega
        go_wp2_with fail
        refine (con_IsSpot (HG.out.below bel) SB).mono ?_
        rintro e w7 ⟨rfl, hb⟩
        replace bel := below_stepD bel hb
        go_wp2_with fail
        go_ret
        exact ⟨by simp, bel⟩
end Go.Proofs.YthbncblhkohomaaDoor
