/- The law EcdsaDecodes. -/
import Derived.Test.YtjpnbbhpgchbpaaGreatDoorRows
import Derived.Test.YtjpnbbhpgchbpaaGreatDoorEdUp
import Derived.Test.YtjpnbbhpgchbpaaGreatDoorEdG
import Derived.Test.YtjpnbbhpgchbpaaGreatDoorEdPart
import Derived.Test.YtjpnbbhpgchbpaaGreatDoorEdTo
import Derived.Test.YtjpnbbhpgchbpaaGreatDoorEdDecG
import Derived.Test.YtjpnbbhpgchbpaaGreatDoorRFrom
import Derived.Test.YtjpnbbhpgchbpaaGreatDoorRefA
import Derived.Test.YtjpnbbhpgchbpaaGreatDoorDrParse
import Derived.Test.YtjpnbbhpgchbpaaGreatDoorErG
import Derived.Deep.OwnRows
import Derived.Deep.AppendLies
import Derived.Great.BuildSlice
import Derived.Laws.Rows
import Derived.Deep.WholeRow
import Derived.Deep.RegionHeld3
import Derived.Deep.DeepCutAuto
import Derived.Deep.DeepFit
namespace Go.Proofs.YtjpnbbhpgchbpaaGreatDoor
open Go.RowKit

theorem eq_nilE14d : ∀ w : World, (binOp .eql 30 .nilIface .nilIface).run Tryz.prog w = .ok (.bool true) w := fun _ => by kernel_rfl
theorem sigP_some {T : Tl} {x y : List Int} (h : sigP T = some (x, y)) : ∃ bb k0 k1, T = .mk 0 16 true bb [k0, k1] ∧ partP k0 = some x ∧ partP k1 = some y := by
  obtain ⟨c, t, m, bb, ks⟩ := T
  match ks, h with
  | [k0, k1], h9 =>
    rw [sigP] at h9
    by_cases hc : c = 0 ∧ t = 16 ∧ m = true
    · rw [if_pos hc] at h9
      obtain ⟨rfl, rfl, rfl⟩ := hc
      cases h0 : partP k0 with
      | none => rw [h0] at h9; cases h9
      | some u =>
        cases h1 : partP k1 with
        | none => rw [h0, h1] at h9; cases h9
        | some v =>
          rw [h0, h1] at h9
          simp only [Option.some.injEq, Prod.mk.injEq] at h9
          exact ⟨bb, k0, k1, rfl, by rw [h0, h9.1], by rw [h1, h9.2]⟩
    · rw [if_neg hc] at h9; cases h9
  | [], h => simp [sigP] at h
  | [_], h => simp [sigP] at h
  | _ :: _ :: _ :: _, h => simp [sigP] at h
theorem sigP_none {bb : List Int} {k0 k1 : Tl} (h : sigP (.mk 0 16 true bb [k0, k1]) = none) : partP k0 = none ∨ partP k1 = none := by
  rw [sigP, if_pos ⟨rfl, rfl, rfl⟩] at h
  cases h0 : partP k0 with
  | none => exact .inl rfl
  | some u =>
    cases h1 : partP k1 with
    | none => exact .inr rfl
    | some v => rw [h0, h1] at h; cases h
theorem two_kids {ks : List Tl} (h : ks.length = 2) : ∃ k0 k1, ks = [k0, k1] := by
  match ks, h with
  | [k0, k1], _ => exact ⟨k0, k1, rfl⟩
theorem kids_small {c t : Int} {m : Bool} {bb b0 b1 : List Int} {c0 t0 c1 t1 : Int} {m0 m1 : Bool} {l0 l1 : List Tl} (hw : WfT (.mk c t m bb [.mk c0 t0 m0 b0 l0, .mk c1 t1 m1 b1 l1])) (hl : (bytesT (.mk c t m bb [.mk c0 t0 m0 b0 l0, .mk c1 t1 m1 b1 l1])).length ≤ 1048576) : byt b0 ∧ b0.length ≤ 1048576 ∧ byt b1 ∧ b1.length ≤ 1048576 := by
  simp only [WfT, WfL] at hw
  obtain ⟨_, _, _, ⟨_, _, w0, _⟩, ⟨_, _, w1, _⟩, _⟩ := hw
  rw [bytesT_len] at hl
  simp only [bytesL, List.length_append, bytesT_len, List.append_nil] at hl
  exact ⟨w0, by omega, w1, by omega⟩
theorem num_form {w : World} {v : Value} {N : Int} (h : NumIs w v N) : ∃ ao n cap, v = .slice ao n cap ∧ (n = 0 ↔ N = 0) := by
  obtain ⟨D, hS, hd, ht, rfl⟩ := h
  obtain ⟨ao, cap, rfl, _⟩ := hS.form
  refine ⟨ao, D.length, cap, rfl, fun h => ?_, fun h => ?_⟩
  · obtain rfl : D = [] := List.eq_nil_of_length_eq_zero h
    rfl
  · have := v32_len D hd ht 0 (by rw [h]; decide)
    omega
theorem num_nonneg {w : World} {v : Value} {N : Int} (h : NumIs w v N) : 0 ≤ N := by
  obtain ⟨D, _, hd, _, rfl⟩ := h
  exact (v32_bound D hd).1
set_option linter.unusedSimpArgs false in
set_option maxRecDepth 100000 in
set_option maxHeartbeats 8000000 in
theorem law_ecdsaDecodes {v : Value} {B : List Int} {w : World} (G : GA w) (GE : GlsE w) (hv : Bs w v B) (b : byt B) :
    Calls Tryz.prog 6 #[v] w fun e w' => e = .returned (.bool true) ∧ Below w.heap.size w w' := by
  have HV : Hid (Bs w v B) := hv
  have HB : Hid (byt B) := b
  have HG : Hid (GA w) := G
  have HGE : Hid (GlsE w) := GE
  obtain ⟨ao, cap, rfl, h1, h2, h3⟩ := hv
  clear h3 b G GE
  unfold maxLen at h1
  go_enter Tryz.func6, Tryz.ntmps6
  go_wp2_with fail
  refine (con_up14 HG.out).mono ?_
  rintro e w1 ⟨rfl, bel⟩
  by_cases g1 : (20000 : Int) < ((B.length : Nat) : Int)
  · by_cases g2 : ((B.length : Nat) : Int) ≤ 1048576
    · go_wp2_with fail
      go_ret
      exact ⟨rfl, bel⟩
    · go_wp2_with fail
      refine (con_Decode (HG.out.below bel).2 (HV.out.later bel) HB.out).mono ?_
      rintro e w2 ⟨hbad, hok⟩
      cases hp : parseP B with
      | error qe =>
        obtain ⟨c, p⟩ := qe
        obtain ⟨er, rfl, hEr, hb⟩ := hbad c p hp
        replace bel := below_step bel hb
        have hcb := parse_bad hp
        clear hbad hok hb
        obtain ⟨zs, hzs⟩ : ∃ zs : List Value, [.int .u64 0, .int .u64 0, .int .u64 0, .int .u64 0, .int .u64 0, .int .u64 0, .int .u64 0, .int .u64 0, .int .u64 0, .int .u64 0, .int .u64 0, .int .u64 0] = zs := ⟨_, rfl⟩
        have HZs : Hid ([.int .u64 0, .int .u64 0, .int .u64 0, .int .u64 0, .int .u64 0, .int .u64 0, .int .u64 0, .int .u64 0, .int .u64 0, .int .u64 0, .int .u64 0, .int .u64 0] = zs) := hzs
        have hza : #[.int .u64 0, .int .u64 0, .int .u64 0, .int .u64 0, .int .u64 0, .int .u64 0, .int .u64 0, .int .u64 0, .int .u64 0, .int .u64 0, .int .u64 0, .int .u64 0] = zs.toArray := by rw [← hzs]
        rw [hza]
        clear hza hzs
        replace hEr := hEr.later ((Below.refl _ _).alloc (Nat.le_refl _) (.cells zs.toArray 28))
        have HLt : Hid (zs.length = 12) := by rw [← HZs.out]; rfl
        have HSt : Hid (zs.toArray.size = 12) := by show _ = _; rw [List.size_toArray]; exact HLt.out
        have HOt : Hid (OneR zs) := by rw [← HZs.out]; exact OneR.app U6.zero.ones U6.zero.ones
        replace bel := below_alloc (o := .cells zs.toArray 28) bel
        have Bt := Blk.new w2 zs 28 w2.heap.size rfl
        have hz := zero_s.out
        go_upto_region 5 with (first | (refine wpList_store_row rfl 28 _ _ rfl w2.heap.size zs.toArray rfl rfl 28 _ (heap_alloc_last _ _) (by rw [size_s, HSt.out]) (by rw [HSt.out]; rfl) HOt.out ?_; rw [World.setRow_alloc_new]) | fail)
        clear hz
        obtain ⟨gt, hgt⟩ : ∃ g, g = w2.heap.size := ⟨_, rfl⟩
        rw [← hgt] at Bt
        generalize w2.alloc (.cells zs.toArray 28) = Vt at *
        rw [← hgt]
        clear hgt
        go_wp2_with fail
        refine (r12_Parse (HV.out.later bel) HB.out).mono ?_
        rintro e w4 ⟨hok, hbad⟩
        obtain ⟨rfl, hb⟩ := hbad c p hp
        replace hEr := hEr.later hb
        replace Bt := Bt.later hb
        replace bel := below_step bel hb
        clear hb
        clear hok hbad hp
        have gc : ¬ (c : Int) = 0 := by omega
        have gc2 : ((c : Int) == 0) = false := by rw [beq_eq_false_iff_ne]; exact gc
        have HAt : Hid (c = 2 → atP c p = -1) := fun h => by unfold atP; rw [if_pos h]
        have HAt2 : Hid (¬ c = 2 → atP c p = (p : Int)) := fun h => by unfold atP; rw [if_neg h]
        obtain ⟨at_, hat⟩ : ∃ z, atP c p = z := ⟨_, rfl⟩
        rw [hat] at HAt HAt2 ⊢
        clear hat
        have hz := zero_tlv.out
        go_upto_region 6 with (first | (refine wpList_store_row rfl 61 _ _ rfl w4.heap.size #[.int .i64 0, .int .i64 0, .bool false, .slice none 0 0, .slice none 0 0] rfl rfl 61 _ (heap_alloc_last _ _) (by rw [size_tlv]; rfl) rfl (by simp [Value.oneCell']) ?_; rw [World.setRow_alloc_new]) | fail)
        clear hz
        replace bel := below_alloc (o := .cells #[.int .i64 0, .int .i64 0, .bool false, .slice none 0 0, .slice none 0 0] 61) bel
        replace Bt := Bt.alloc (.cells #[.int .i64 0, .int .i64 0, .bool false, .slice none 0 0, .slice none 0 0] 61)
        replace hEr := hEr.later ((Below.refl _ _).alloc (Nat.le_refl _) (.cells #[.int .i64 0, .int .i64 0, .bool false, .slice none 0 0, .slice none 0 0] 61))
        generalize w4.alloc (.cells #[.int .i64 0, .int .i64 0, .bool false, .slice none 0 0, .slice none 0 0] 61) = w5 at *
        have q2 : ∀ w : World, (Op.equalIn 10000 28 (.agg zs.toArray) (.agg #[.int .u64 0, .int .u64 0, .int .u64 0, .int .u64 0, .int .u64 0, .int .u64 0, .int .u64 0, .int .u64 0, .int .u64 0, .int .u64 0, .int .u64 0, .int .u64 0])).run Tryz.prog w = .ok true w := fun w => by rw [← HZs.out]; exact (eqS U6.zero U6.zero U6.zero U6.zero w).trans (by simp)
        by_cases c2 : c = 2
        · subst c2
          have ha := HAt.out rfl
          subst ha
          obtain rfl := hEr.long
          go_wp2_with fail
          refine (con_CodeOf (c := 2) (by decide) (by decide)).mono ?_
          rintro e w7 ⟨rfl, hw⟩
          rw [hw]
          have l2 := Bt.lt
          go_wp2_with (first | (refine wpList_load_run (by rfl) (by rfl) (by rfl) (Bt.load Tryz.underlying28 rfl size_s HLt.out) ?_) | fail)
          go_ret
          exact ⟨rfl, bel⟩
        · have ha := HAt2.out c2
          subst ha
          obtain ⟨sg, rfl, SB⟩ := hEr.spot c2
          have ga : ¬ (p : Int) < 0 := by omega
          go_wp2_with fail
          refine (con_IsSpot (HGE.out.below bel) SB).mono ?_
          rintro e w7 ⟨rfl, hb⟩
          replace Bt := Bt.later hb
          replace bel := below_step bel hb
          clear hb
          have l2 := Bt.lt
          rw [decide_eq_true rfl, decide_eq_true rfl]
          go_wp2_with (first | (refine wpList_load_run (by rfl) (by rfl) (by rfl) (Bt.load Tryz.underlying28 rfl size_s HLt.out) ?_) | fail)
          go_ret
          exact ⟨rfl, bel⟩
      | ok T =>
        exact absurd (parse_ok HB.out hp).2.2.2.2 (by omega)
  · go_wp2_with fail
    refine (con_Decode (HG.out.below bel).2 (HV.out.later bel) HB.out).mono ?_
    rintro e w2 ⟨hbad, hok⟩
    cases hp : parseP B with
    | error qe =>
      obtain ⟨c, p⟩ := qe
      obtain ⟨er, rfl, hEr, hb⟩ := hbad c p hp
      replace bel := below_step bel hb
      have hcb := parse_bad hp
      clear hbad hok hb
      obtain ⟨zs, hzs⟩ : ∃ zs : List Value, [.int .u64 0, .int .u64 0, .int .u64 0, .int .u64 0, .int .u64 0, .int .u64 0, .int .u64 0, .int .u64 0, .int .u64 0, .int .u64 0, .int .u64 0, .int .u64 0] = zs := ⟨_, rfl⟩
      have HZs : Hid ([.int .u64 0, .int .u64 0, .int .u64 0, .int .u64 0, .int .u64 0, .int .u64 0, .int .u64 0, .int .u64 0, .int .u64 0, .int .u64 0, .int .u64 0, .int .u64 0] = zs) := hzs
      have hza : #[.int .u64 0, .int .u64 0, .int .u64 0, .int .u64 0, .int .u64 0, .int .u64 0, .int .u64 0, .int .u64 0, .int .u64 0, .int .u64 0, .int .u64 0, .int .u64 0] = zs.toArray := by rw [← hzs]
      rw [hza]
      clear hza hzs
      replace hEr := hEr.later ((Below.refl _ _).alloc (Nat.le_refl _) (.cells zs.toArray 28))
      have HLt : Hid (zs.length = 12) := by rw [← HZs.out]; rfl
      have HSt : Hid (zs.toArray.size = 12) := by show _ = _; rw [List.size_toArray]; exact HLt.out
      have HOt : Hid (OneR zs) := by rw [← HZs.out]; exact OneR.app U6.zero.ones U6.zero.ones
      replace bel := below_alloc (o := .cells zs.toArray 28) bel
      have Bt := Blk.new w2 zs 28 w2.heap.size rfl
      have hz := zero_s.out
      go_upto_region 5 with (first | (refine wpList_store_row rfl 28 _ _ rfl w2.heap.size zs.toArray rfl rfl 28 _ (heap_alloc_last _ _) (by rw [size_s, HSt.out]) (by rw [HSt.out]; rfl) HOt.out ?_; rw [World.setRow_alloc_new]) | fail)
      clear hz
      obtain ⟨gt, hgt⟩ : ∃ g, g = w2.heap.size := ⟨_, rfl⟩
      rw [← hgt] at Bt
      generalize w2.alloc (.cells zs.toArray 28) = Vt at *
      rw [← hgt]
      clear hgt
      go_wp2_with fail
      refine (r12_Parse (HV.out.later bel) HB.out).mono ?_
      rintro e w4 ⟨hok, hbad⟩
      obtain ⟨rfl, hb⟩ := hbad c p hp
      replace hEr := hEr.later hb
      replace Bt := Bt.later hb
      replace bel := below_step bel hb
      clear hb
      clear hok hbad hp
      have gc : ¬ (c : Int) = 0 := by omega
      have gc2 : ((c : Int) == 0) = false := by rw [beq_eq_false_iff_ne]; exact gc
      have HAt : Hid (c = 2 → atP c p = -1) := fun h => by unfold atP; rw [if_pos h]
      have HAt2 : Hid (¬ c = 2 → atP c p = (p : Int)) := fun h => by unfold atP; rw [if_neg h]
      obtain ⟨at_, hat⟩ : ∃ z, atP c p = z := ⟨_, rfl⟩
      rw [hat] at HAt HAt2 ⊢
      clear hat
      have hz := zero_tlv.out
      go_upto_region 6 with (first | (refine wpList_store_row rfl 61 _ _ rfl w4.heap.size #[.int .i64 0, .int .i64 0, .bool false, .slice none 0 0, .slice none 0 0] rfl rfl 61 _ (heap_alloc_last _ _) (by rw [size_tlv]; rfl) rfl (by simp [Value.oneCell']) ?_; rw [World.setRow_alloc_new]) | fail)
      clear hz
      replace bel := below_alloc (o := .cells #[.int .i64 0, .int .i64 0, .bool false, .slice none 0 0, .slice none 0 0] 61) bel
      replace Bt := Bt.alloc (.cells #[.int .i64 0, .int .i64 0, .bool false, .slice none 0 0, .slice none 0 0] 61)
      replace hEr := hEr.later ((Below.refl _ _).alloc (Nat.le_refl _) (.cells #[.int .i64 0, .int .i64 0, .bool false, .slice none 0 0, .slice none 0 0] 61))
      generalize w4.alloc (.cells #[.int .i64 0, .int .i64 0, .bool false, .slice none 0 0, .slice none 0 0] 61) = w5 at *
      have q2 : ∀ w : World, (Op.equalIn 10000 28 (.agg zs.toArray) (.agg #[.int .u64 0, .int .u64 0, .int .u64 0, .int .u64 0, .int .u64 0, .int .u64 0, .int .u64 0, .int .u64 0, .int .u64 0, .int .u64 0, .int .u64 0, .int .u64 0])).run Tryz.prog w = .ok true w := fun w => by rw [← HZs.out]; exact (eqS U6.zero U6.zero U6.zero U6.zero w).trans (by simp)
      by_cases c2 : c = 2
      · subst c2
        have ha := HAt.out rfl
        subst ha
        obtain rfl := hEr.long
        go_wp2_with fail
        refine (con_CodeOf (c := 2) (by decide) (by decide)).mono ?_
        rintro e w7 ⟨rfl, hw⟩
        rw [hw]
        have l2 := Bt.lt
        go_wp2_with (first | (refine wpList_load_run (by rfl) (by rfl) (by rfl) (Bt.load Tryz.underlying28 rfl size_s HLt.out) ?_) | fail)
        go_ret
        exact ⟨rfl, bel⟩
      · have ha := HAt2.out c2
        subst ha
        obtain ⟨sg, rfl, SB⟩ := hEr.spot c2
        have ga : ¬ (p : Int) < 0 := by omega
        go_wp2_with fail
        refine (con_IsSpot (HGE.out.below bel) SB).mono ?_
        rintro e w7 ⟨rfl, hb⟩
        replace Bt := Bt.later hb
        replace bel := below_step bel hb
        clear hb
        have l2 := Bt.lt
        rw [decide_eq_true rfl, decide_eq_true rfl]
        go_wp2_with (first | (refine wpList_load_run (by rfl) (by rfl) (by rfl) (Bt.load Tryz.underlying28 rfl size_s HLt.out) ?_) | fail)
        go_ret
        exact ⟨rfl, bel⟩
    | ok T =>
      cases hs : sigP T with
      | none =>
        obtain ⟨rfl, hb⟩ := (hok _ hp).1 hs
        replace bel := below_step bel hb
        have HPo : Hid _ := parse_ok HB.out hp
        have HSg : Hid (sigP T = none) := hs
        clear hok hbad hb hs

        have hcv7 : codeV 7 = .iface 34 (.int .i64 7) := rfl
        have hcv3 : codeV 3 = .iface 34 (.int .i64 3) := rfl
        first | rw [hcv7] | rw [hcv3] | skip
        clear hcv7 hcv3
        obtain ⟨zs, hzs⟩ : ∃ zs : List Value, [.int .u64 0, .int .u64 0, .int .u64 0, .int .u64 0, .int .u64 0, .int .u64 0, .int .u64 0, .int .u64 0, .int .u64 0, .int .u64 0, .int .u64 0, .int .u64 0] = zs := ⟨_, rfl⟩
        have HZs : Hid ([.int .u64 0, .int .u64 0, .int .u64 0, .int .u64 0, .int .u64 0, .int .u64 0, .int .u64 0, .int .u64 0, .int .u64 0, .int .u64 0, .int .u64 0, .int .u64 0] = zs) := hzs
        have hza : #[.int .u64 0, .int .u64 0, .int .u64 0, .int .u64 0, .int .u64 0, .int .u64 0, .int .u64 0, .int .u64 0, .int .u64 0, .int .u64 0, .int .u64 0, .int .u64 0] = zs.toArray := by rw [← hzs]
        rw [hza]
        clear hza hzs
        have HLt : Hid (zs.length = 12) := by rw [← HZs.out]; rfl
        have HSt : Hid (zs.toArray.size = 12) := by show _ = _; rw [List.size_toArray]; exact HLt.out
        have HOt : Hid (OneR zs) := by rw [← HZs.out]; exact OneR.app U6.zero.ones U6.zero.ones
        replace bel := below_alloc (o := .cells zs.toArray 28) bel
        have Bt := Blk.new w2 zs 28 w2.heap.size rfl
        have hz := zero_s.out
        go_upto_region 5 with (first | (refine wpList_store_row rfl 28 _ _ rfl w2.heap.size zs.toArray rfl rfl 28 _ (heap_alloc_last _ _) (by rw [size_s, HSt.out]) (by rw [HSt.out]; rfl) HOt.out ?_; rw [World.setRow_alloc_new]) | fail)
        clear hz
        obtain ⟨gt, hgt⟩ : ∃ g, g = w2.heap.size := ⟨_, rfl⟩
        rw [← hgt] at Bt
        generalize w2.alloc (.cells zs.toArray 28) = Vt at *
        rw [← hgt]
        clear hgt
        go_wp2_with fail
        refine (r12_Parse (HV.out.later bel) HB.out).mono ?_
        rintro e w4 ⟨hokR, _⟩
        obtain ⟨cb, rfl, hdep, hb⟩ := hokR _ hp
        have TB := hdep.now
        replace Bt := Bt.later hb
        replace bel := below_step bel hb
        clear hb
        have HOcb : Hid (OneC cb) := TB.ones
        have HScb : Hid (cb.toArray.size = 5) := by show _ = _; rw [List.size_toArray]; exact TB.five
        clear hokR hdep
        have hz := zero_tlv.out
        go_upto_region 6 with (first | (refine wpList_store_row rfl 61 _ _ rfl w4.heap.size cb.toArray rfl rfl 61 _ (heap_alloc_last _ _) (by rw [size_tlv, HScb.out]) (by rw [HScb.out]; rfl) HOcb.out ?_; rw [World.setRow_alloc_new]) | fail)
        clear hz
        replace bel := below_alloc (o := .cells cb.toArray 61) bel
        have KB := Blk.new w4 cb 61 w4.heap.size rfl
        replace TB := TB.later ((Below.refl _ _).alloc (Nat.le_refl _) (.cells cb.toArray 61))
        replace Bt := Bt.alloc (.cells cb.toArray 61)
        obtain ⟨gT, hgT⟩ : ∃ g, g = w4.heap.size := ⟨_, rfl⟩
        rw [← hgT] at KB ⊢
        clear hgT
        generalize w4.alloc (.cells cb.toArray 61) = w5 at *
        obtain ⟨c, t, m, bb, ks⟩ := T
        rw [TlAt] at TB
        obtain ⟨bv, ka, kc, rfl, hbv, hk1, hk2, hk3⟩ := TB
        have HK : Hid _ := hk3
        obtain ⟨ba, bc, rfl, -, -, -⟩ := hbv
        unfold maxLen at hk2
        clear hk3 HOcb HScb
        have f0 := KB.cell 0 _ rfl
        have f1 := KB.cell 1 _ rfl
        have f2 := KB.cell 2 _ rfl
        have f4 := KB.cell 4 _ rfl
        have lT := KB.lt
        clear hp
        by_cases c1 : c = 0
        rotate_left
        · have d1 : (c == 0) = false := by rw [beq_eq_false_iff_ne]; exact c1
          have d2 : (c != 0) = true := by rw [bne, d1]; rfl
          have q1 := iface_eqE 7
          have q2 : ∀ w : World, (Op.equalIn 10000 28 (.agg zs.toArray) (.agg #[.int .u64 0, .int .u64 0, .int .u64 0, .int .u64 0, .int .u64 0, .int .u64 0, .int .u64 0, .int .u64 0, .int .u64 0, .int .u64 0, .int .u64 0, .int .u64 0])).run Tryz.prog w = .ok true w := fun w => by rw [← HZs.out]; exact (eqS U6.zero U6.zero U6.zero U6.zero w).trans (by simp)
          have l2 := Bt.lt
          go_wp2_with (first | (refine wpList_load_run (by rfl) (by rfl) (by rfl) (Bt.load Tryz.underlying28 rfl size_s HLt.out) ?_) | fail)
          go_ret
          exact ⟨rfl, bel⟩
        subst c1
        by_cases c2 : t = 16
        rotate_left
        · have d1 : (t == 16) = false := by rw [beq_eq_false_iff_ne]; exact c2
          have d2 : (t != 16) = true := by rw [bne, d1]; rfl
          have q1 := iface_eqE 7
          have q2 : ∀ w : World, (Op.equalIn 10000 28 (.agg zs.toArray) (.agg #[.int .u64 0, .int .u64 0, .int .u64 0, .int .u64 0, .int .u64 0, .int .u64 0, .int .u64 0, .int .u64 0, .int .u64 0, .int .u64 0, .int .u64 0, .int .u64 0])).run Tryz.prog w = .ok true w := fun w => by rw [← HZs.out]; exact (eqS U6.zero U6.zero U6.zero U6.zero w).trans (by simp)
          have l2 := Bt.lt
          go_wp2_with (first | (refine wpList_load_run (by rfl) (by rfl) (by rfl) (Bt.load Tryz.underlying28 rfl size_s HLt.out) ?_) | fail)
          go_ret
          exact ⟨rfl, bel⟩
        subst c2
        cases m with
        | false =>
          have q1 := iface_eqE 7
          have q2 : ∀ w : World, (Op.equalIn 10000 28 (.agg zs.toArray) (.agg #[.int .u64 0, .int .u64 0, .int .u64 0, .int .u64 0, .int .u64 0, .int .u64 0, .int .u64 0, .int .u64 0, .int .u64 0, .int .u64 0, .int .u64 0, .int .u64 0])).run Tryz.prog w = .ok true w := fun w => by rw [← HZs.out]; exact (eqS U6.zero U6.zero U6.zero U6.zero w).trans (by simp)
          have l2 := Bt.lt
          go_wp2_with (first | (refine wpList_load_run (by rfl) (by rfl) (by rfl) (Bt.load Tryz.underlying28 rfl size_s HLt.out) ?_) | fail)
          go_ret
          exact ⟨rfl, bel⟩
        | true =>
        by_cases c3 : ks.length = 2
        rotate_left
        · have d1 : ((ks.length : Int) == 2) = false := by rw [beq_eq_false_iff_ne]; omega
          have d2 : ((ks.length : Int) != 2) = true := by rw [bne, d1]; rfl
          have q1 := iface_eqE 7
          have q2 : ∀ w : World, (Op.equalIn 10000 28 (.agg zs.toArray) (.agg #[.int .u64 0, .int .u64 0, .int .u64 0, .int .u64 0, .int .u64 0, .int .u64 0, .int .u64 0, .int .u64 0, .int .u64 0, .int .u64 0, .int .u64 0, .int .u64 0])).run Tryz.prog w = .ok true w := fun w => by rw [← HZs.out]; exact (eqS U6.zero U6.zero U6.zero U6.zero w).trans (by simp)
          have l2 := Bt.lt
          go_wp2_with (first | (refine wpList_load_run (by rfl) (by rfl) (by rfl) (Bt.load Tryz.underlying28 rfl size_s HLt.out) ?_) | fail)
          go_ret
          exact ⟨rfl, bel⟩
        obtain ⟨k0, k1, rfl⟩ := two_kids c3
        clear c3
        have HNo : Hid (partP k0 = none ∨ partP k1 = none) := sigP_none HSg.out
        obtain ⟨gk, ok, rfl, hks⟩ := HK.out (by show 0 < 2; omega)
        rw [KidsAt, KidsAt] at hks
        obtain ⟨⟨cs0, hc0, ht0⟩, ⟨cs1, hc1, ht1⟩, -⟩ := hks
        have hld0 := tlv_load hc0 ht0.five
        have hld1 := tlv_load hc1 ht1.five
        obtain ⟨c0, t0, m0, b0, l0⟩ := k0
        obtain ⟨c1, t1, m1, b1, l1⟩ := k1
        obtain ⟨hB0, hL0, hB1, hL1⟩ := kids_small HPo.out.2.2.2.1 (by rw [HPo.out.1]; exact HPo.out.2.2.2.2)
        go_wp2_with (first | (refine wpList_load_run (by rfl) (by rfl) (by rfl) hld0 ?_) | fail)
        refine (con_part14 ht0 hB0 hL0).mono ?_
        rintro e w6 h6
        rcases h6 with ⟨n0, v0, hp0, rfl, -, -, -, hb⟩ | ⟨-, v0, rfl, hb⟩
        · replace Bt := Bt.later hb
          replace KB := KB.later hb
          replace bel := below_step bel hb
          replace hc1 := hc1.later hb
          replace ht1 := ht1.later hb
          clear hb
          clear hld0 hld1 f4 lT
          have hld1 := tlv_load hc1 ht1.five
          have f4 := KB.cell 4 _ rfl
          have lT := KB.lt
          go_wp2_with (first | (refine wpList_load_run (by rfl) (by rfl) (by rfl) hld1 ?_) | fail)
          refine (con_part14 ht1 hB1 hL1).mono ?_
          rintro e w7 h7
          rcases h7 with ⟨n1, v1, hp1, rfl, -, -, -, hb⟩ | ⟨-, v1, rfl, hb⟩
          · exact absurd HNo.out (by rw [hp0, hp1]; simp)
          · replace Bt := Bt.later hb
            replace KB := KB.later hb
            replace bel := below_step bel hb
            clear hb
            have q1 := iface_eqE 7
            have q2 : ∀ w : World, (Op.equalIn 10000 28 (.agg zs.toArray) (.agg #[.int .u64 0, .int .u64 0, .int .u64 0, .int .u64 0, .int .u64 0, .int .u64 0, .int .u64 0, .int .u64 0, .int .u64 0, .int .u64 0, .int .u64 0, .int .u64 0])).run Tryz.prog w = .ok true w := fun w => by rw [← HZs.out]; exact (eqS U6.zero U6.zero U6.zero U6.zero w).trans (by simp)
            have l2 := Bt.lt
            go_wp2_with (first | (refine wpList_load_run (by rfl) (by rfl) (by rfl) (Bt.load Tryz.underlying28 rfl size_s HLt.out) ?_) | fail)
            go_ret
            exact ⟨rfl, bel⟩
        · replace Bt := Bt.later hb
          replace KB := KB.later hb
          replace bel := below_step bel hb
          replace hc1 := hc1.later hb
          replace ht1 := ht1.later hb
          clear hb
          clear hld0 hld1 f4 lT
          have hld1 := tlv_load hc1 ht1.five
          have f4 := KB.cell 4 _ rfl
          have lT := KB.lt
          go_wp2_with (first | (refine wpList_load_run (by rfl) (by rfl) (by rfl) hld1 ?_) | fail)
          refine (con_part14 ht1 hB1 hL1).mono ?_
          rintro e w7 h7
          rcases h7 with ⟨n1, v1, hp1, rfl, -, -, -, hb⟩ | ⟨-, v1, rfl, hb⟩
          · replace Bt := Bt.later hb
            replace KB := KB.later hb
            replace bel := below_step bel hb
            clear hb
            have q1 := iface_eqE 7
            have q2 : ∀ w : World, (Op.equalIn 10000 28 (.agg zs.toArray) (.agg #[.int .u64 0, .int .u64 0, .int .u64 0, .int .u64 0, .int .u64 0, .int .u64 0, .int .u64 0, .int .u64 0, .int .u64 0, .int .u64 0, .int .u64 0, .int .u64 0])).run Tryz.prog w = .ok true w := fun w => by rw [← HZs.out]; exact (eqS U6.zero U6.zero U6.zero U6.zero w).trans (by simp)
            have l2 := Bt.lt
            go_wp2_with (first | (refine wpList_load_run (by rfl) (by rfl) (by rfl) (Bt.load Tryz.underlying28 rfl size_s HLt.out) ?_) | fail)
            go_ret
            exact ⟨rfl, bel⟩
          · replace Bt := Bt.later hb
            replace KB := KB.later hb
            replace bel := below_step bel hb
            clear hb
            have q1 := iface_eqE 7
            have q2 : ∀ w : World, (Op.equalIn 10000 28 (.agg zs.toArray) (.agg #[.int .u64 0, .int .u64 0, .int .u64 0, .int .u64 0, .int .u64 0, .int .u64 0, .int .u64 0, .int .u64 0, .int .u64 0, .int .u64 0, .int .u64 0, .int .u64 0])).run Tryz.prog w = .ok true w := fun w => by rw [← HZs.out]; exact (eqS U6.zero U6.zero U6.zero U6.zero w).trans (by simp)
            have l2 := Bt.lt
            go_wp2_with (first | (refine wpList_load_run (by rfl) (by rfl) (by rfl) (Bt.load Tryz.underlying28 rfl size_s HLt.out) ?_) | fail)
            go_ret
            exact ⟨rfl, bel⟩
      | some xy =>
        obtain ⟨x, y⟩ := xy
        by_cases cR : isSc (beN x) ∧ isSc (beN y)
        rotate_left
        · obtain ⟨rfl, hb⟩ := ((hok _ hp).2 _ _ hs).1 cR
          replace bel := below_step bel hb
          have HPo : Hid _ := parse_ok HB.out hp
          have HSg : Hid (sigP T = some (x, y)) := hs
          have HcR : Hid _ := cR
          clear hok hbad hb hs cR

          have hcv7 : codeV 7 = .iface 34 (.int .i64 7) := rfl
          have hcv3 : codeV 3 = .iface 34 (.int .i64 3) := rfl
          first | rw [hcv7] | rw [hcv3] | skip
          clear hcv7 hcv3
          obtain ⟨zs, hzs⟩ : ∃ zs : List Value, [.int .u64 0, .int .u64 0, .int .u64 0, .int .u64 0, .int .u64 0, .int .u64 0, .int .u64 0, .int .u64 0, .int .u64 0, .int .u64 0, .int .u64 0, .int .u64 0] = zs := ⟨_, rfl⟩
          have HZs : Hid ([.int .u64 0, .int .u64 0, .int .u64 0, .int .u64 0, .int .u64 0, .int .u64 0, .int .u64 0, .int .u64 0, .int .u64 0, .int .u64 0, .int .u64 0, .int .u64 0] = zs) := hzs
          have hza : #[.int .u64 0, .int .u64 0, .int .u64 0, .int .u64 0, .int .u64 0, .int .u64 0, .int .u64 0, .int .u64 0, .int .u64 0, .int .u64 0, .int .u64 0, .int .u64 0] = zs.toArray := by rw [← hzs]
          rw [hza]
          clear hza hzs
          have HLt : Hid (zs.length = 12) := by rw [← HZs.out]; rfl
          have HSt : Hid (zs.toArray.size = 12) := by show _ = _; rw [List.size_toArray]; exact HLt.out
          have HOt : Hid (OneR zs) := by rw [← HZs.out]; exact OneR.app U6.zero.ones U6.zero.ones
          replace bel := below_alloc (o := .cells zs.toArray 28) bel
          have Bt := Blk.new w2 zs 28 w2.heap.size rfl
          have hz := zero_s.out
          go_upto_region 5 with (first | (refine wpList_store_row rfl 28 _ _ rfl w2.heap.size zs.toArray rfl rfl 28 _ (heap_alloc_last _ _) (by rw [size_s, HSt.out]) (by rw [HSt.out]; rfl) HOt.out ?_; rw [World.setRow_alloc_new]) | fail)
          clear hz
          obtain ⟨gt, hgt⟩ : ∃ g, g = w2.heap.size := ⟨_, rfl⟩
          rw [← hgt] at Bt
          generalize w2.alloc (.cells zs.toArray 28) = Vt at *
          rw [← hgt]
          clear hgt
          go_wp2_with fail
          refine (r12_Parse (HV.out.later bel) HB.out).mono ?_
          rintro e w4 ⟨hokR, _⟩
          obtain ⟨cb, rfl, hdep, hb⟩ := hokR _ hp
          have TB := hdep.now
          replace Bt := Bt.later hb
          replace bel := below_step bel hb
          clear hb
          have HOcb : Hid (OneC cb) := TB.ones
          have HScb : Hid (cb.toArray.size = 5) := by show _ = _; rw [List.size_toArray]; exact TB.five
          clear hokR hdep
          have hz := zero_tlv.out
          go_upto_region 6 with (first | (refine wpList_store_row rfl 61 _ _ rfl w4.heap.size cb.toArray rfl rfl 61 _ (heap_alloc_last _ _) (by rw [size_tlv, HScb.out]) (by rw [HScb.out]; rfl) HOcb.out ?_; rw [World.setRow_alloc_new]) | fail)
          clear hz
          replace bel := below_alloc (o := .cells cb.toArray 61) bel
          have KB := Blk.new w4 cb 61 w4.heap.size rfl
          replace TB := TB.later ((Below.refl _ _).alloc (Nat.le_refl _) (.cells cb.toArray 61))
          replace Bt := Bt.alloc (.cells cb.toArray 61)
          obtain ⟨gT, hgT⟩ : ∃ g, g = w4.heap.size := ⟨_, rfl⟩
          rw [← hgT] at KB ⊢
          clear hgT
          generalize w4.alloc (.cells cb.toArray 61) = w5 at *
          obtain ⟨c, t, m, bb, ks⟩ := T
          rw [TlAt] at TB
          obtain ⟨bv, ka, kc, rfl, hbv, hk1, hk2, hk3⟩ := TB
          have HK : Hid _ := hk3
          obtain ⟨ba, bc, rfl, -, -, -⟩ := hbv
          unfold maxLen at hk2
          clear hk3 HOcb HScb
          have f0 := KB.cell 0 _ rfl
          have f1 := KB.cell 1 _ rfl
          have f2 := KB.cell 2 _ rfl
          have f4 := KB.cell 4 _ rfl
          have lT := KB.lt
          clear hp
          obtain ⟨bb9, k0, k1, hT9, hP0, hP1⟩ := sigP_some HSg.out
          obtain ⟨rfl, rfl, rfl, rfl, rfl⟩ : c = 0 ∧ t = 16 ∧ m = true ∧ bb = bb9 ∧ ks = [k0, k1] := by simpa using hT9
          clear hT9
          obtain ⟨gk, ok, rfl, hks⟩ := HK.out (by show 0 < 2; omega)
          rw [KidsAt, KidsAt] at hks
          obtain ⟨⟨cs0, hc0, ht0⟩, ⟨cs1, hc1, ht1⟩, -⟩ := hks
          have hld0 := tlv_load hc0 ht0.five
          have hld1 := tlv_load hc1 ht1.five
          obtain ⟨c0, t0, m0, b0, l0⟩ := k0
          obtain ⟨c1, t1, m1, b1, l1⟩ := k1
          obtain ⟨hB0, hL0, hB1, hL1⟩ := kids_small HPo.out.2.2.2.1 (by rw [HPo.out.1]; exact HPo.out.2.2.2.2)
          go_wp2_with (first | (refine wpList_load_run (by rfl) (by rfl) (by rfl) hld0 ?_) | fail)
          refine (con_part14 ht0 hB0 hL0).mono ?_
          rintro e w6 h6
          rcases h6 with ⟨n0, v0, hp0, rfl, bs0, by0, len0, hb⟩ | ⟨hp0, -⟩
          rotate_left
          · rw [hP0] at hp0; cases hp0
          obtain rfl : n0 = x := Option.some.inj (hp0.symm.trans hP0)
          replace Bt := Bt.later hb
          replace KB := KB.later hb
          replace bel := below_step bel hb
          replace hc1 := hc1.later hb
          replace ht1 := ht1.later hb
          clear hb
          clear hld0 hld1 f4 lT
          have hld1 := tlv_load hc1 ht1.five
          have f4 := KB.cell 4 _ rfl
          have lT := KB.lt
          go_wp2_with (first | (refine wpList_load_run (by rfl) (by rfl) (by rfl) hld1 ?_) | fail)
          refine (con_part14 ht1 hB1 hL1).mono ?_
          rintro e w7 h7
          rcases h7 with ⟨n1, v1, hp1, rfl, bs1, by1, len1, hb⟩ | ⟨hp1, -⟩
          rotate_left
          · rw [hP1] at hp1; cases hp1
          obtain rfl : n1 = y := Option.some.inj (hp1.symm.trans hP1)
          replace bs0 := bs0.later hb
          replace Bt := Bt.later hb
          replace bel := below_step bel hb
          clear hb
          clear hld1 f4 lT f0 f1 f2 KB hc0 hc1 ht0 ht1 hp0 hp1 hP0 hP1 HK
          have hx0 := bs0
          obtain ⟨xa, xc, rfl, -, -, -⟩ := hx0
          have hy0 := bs1
          obtain ⟨ya, yc, rfl, -, -, -⟩ := hy0
          go_wp2_with fail
          refine (rfrom_any _ _ _ bs0 by0 (by omega)).mono ?_
          rintro e w8 ⟨rv, rfl, N1, hb⟩
          replace bs1 := bs1.later hb
          replace Bt := Bt.later hb
          replace bel := below_step bel hb
          clear hb
          go_wp2_with fail
          refine (rfrom_any _ _ _ bs1 by1 (by omega)).mono ?_
          rintro e w9 ⟨sv, rfl, N2, hb⟩
          replace N1 := N1.later hb
          replace Bt := Bt.later hb
          replace bel := below_step bel hb
          clear hb
          go_wp2_with fail
          refine n_any.mono ?_
          rintro e w10 ⟨qv, rfl, N3, hb⟩
          replace N1 := N1.later hb
          replace N2 := N2.later hb
          replace Bt := Bt.later hb
          replace bel := below_step bel hb
          clear hb
          have HN1 : Hid (NumIs w10 _ (beN n0)) := N1
          have HN2 : Hid (NumIs w10 _ (beN n1)) := N2
          have HN3 : Hid (NumIs w10 _ QQ) := N3
          obtain ⟨ra, rn, rc, rfl, hrn⟩ := num_form N1
          obtain ⟨sa, sn, sc, rfl, hsn⟩ := num_form N2
          clear N1 N2 N3 bs0 bs1
          have nn1 := num_nonneg HN1.out
          have nn2 := num_nonneg HN2.out
          by_cases e1 : rn = 0
          · have d1 : (rn : Int) = 0 := by omega
            clear e1
            have q1 := iface_eqE 3
            have q2 : ∀ w : World, (Op.equalIn 10000 28 (.agg zs.toArray) (.agg #[.int .u64 0, .int .u64 0, .int .u64 0, .int .u64 0, .int .u64 0, .int .u64 0, .int .u64 0, .int .u64 0, .int .u64 0, .int .u64 0, .int .u64 0, .int .u64 0])).run Tryz.prog w = .ok true w := fun w => by rw [← HZs.out]; exact (eqS U6.zero U6.zero U6.zero U6.zero w).trans (by simp)
            have l2 := Bt.lt
            go_wp2_with (first | (refine wpList_load_run (by rfl) (by rfl) (by rfl) (Bt.load Tryz.underlying28 rfl size_s HLt.out) ?_) | fail)
            go_ret
            exact ⟨rfl, bel⟩
          have d1 : ((rn : Int) == 0) = false := by rw [beq_eq_false_iff_ne]; omega
          by_cases e2 : sn = 0
          · have d2 : (sn : Int) = 0 := by omega
            clear e2
            have q1 := iface_eqE 3
            have q2 : ∀ w : World, (Op.equalIn 10000 28 (.agg zs.toArray) (.agg #[.int .u64 0, .int .u64 0, .int .u64 0, .int .u64 0, .int .u64 0, .int .u64 0, .int .u64 0, .int .u64 0, .int .u64 0, .int .u64 0, .int .u64 0, .int .u64 0])).run Tryz.prog w = .ok true w := fun w => by rw [← HZs.out]; exact (eqS U6.zero U6.zero U6.zero U6.zero w).trans (by simp)
            have l2 := Bt.lt
            go_wp2_with (first | (refine wpList_load_run (by rfl) (by rfl) (by rfl) (Bt.load Tryz.underlying28 rfl size_s HLt.out) ?_) | fail)
            go_ret
            exact ⟨rfl, bel⟩
          have d2 : ((sn : Int) == 0) = false := by rw [beq_eq_false_iff_ne]; omega
          by_cases e3 : beN n0 < QQ
          rotate_left
          · go_wp2_with fail
            refine (cmp_any _ _ _ _ _ HN1.out HN3.out).mono ?_
            rintro e w11 ⟨rfl, hb⟩
            replace Bt := Bt.later hb
            replace bel := below_step bel hb
            replace HN1 : Hid (NumIs w11 _ (beN n0)) := HN1.out.later hb
            replace HN2 : Hid (NumIs w11 _ (beN n1)) := HN2.out.later hb
            replace HN3 : Hid (NumIs w11 _ QQ) := HN3.out.later hb
            clear hb
            have hge : 0 ≤ cmpN (beN n0) QQ := by unfold cmpN; rw [if_neg (by omega)]; split <;> decide
            obtain ⟨cz, hcz⟩ : ∃ z, cmpN (beN n0) QQ = z := ⟨_, rfl⟩
            rw [hcz] at hge ⊢
            clear hcz
            have q1 := iface_eqE 3
            have q2 : ∀ w : World, (Op.equalIn 10000 28 (.agg zs.toArray) (.agg #[.int .u64 0, .int .u64 0, .int .u64 0, .int .u64 0, .int .u64 0, .int .u64 0, .int .u64 0, .int .u64 0, .int .u64 0, .int .u64 0, .int .u64 0, .int .u64 0])).run Tryz.prog w = .ok true w := fun w => by rw [← HZs.out]; exact (eqS U6.zero U6.zero U6.zero U6.zero w).trans (by simp)
            have l2 := Bt.lt
            go_wp2_with (first | (refine wpList_load_run (by rfl) (by rfl) (by rfl) (Bt.load Tryz.underlying28 rfl size_s HLt.out) ?_) | fail)
            go_ret
            exact ⟨rfl, bel⟩
          by_cases e4 : beN n1 < QQ
          · exact absurd ⟨⟨by omega, e3⟩, ⟨by omega, e4⟩⟩ HcR.out
          go_wp2_with fail
          refine (cmp_any _ _ _ _ _ HN1.out HN3.out).mono ?_
          rintro e w11 ⟨rfl, hb⟩
          replace Bt := Bt.later hb
          replace bel := below_step bel hb
          replace HN1 : Hid (NumIs w11 _ (beN n0)) := HN1.out.later hb
          replace HN2 : Hid (NumIs w11 _ (beN n1)) := HN2.out.later hb
          replace HN3 : Hid (NumIs w11 _ QQ) := HN3.out.later hb
          clear hb
          rw [← cmpN_lt e3]
          go_wp2_with fail
          refine (cmp_any _ _ _ _ _ HN2.out HN3.out).mono ?_
          rintro e w12 ⟨rfl, hb⟩
          replace Bt := Bt.later hb
          replace bel := below_step bel hb
          replace HN1 : Hid (NumIs w12 _ (beN n0)) := HN1.out.later hb
          replace HN2 : Hid (NumIs w12 _ (beN n1)) := HN2.out.later hb
          replace HN3 : Hid (NumIs w12 _ QQ) := HN3.out.later hb
          clear hb
          have hge : 0 ≤ cmpN (beN n1) QQ := by unfold cmpN; rw [if_neg (by omega)]; split <;> decide
          obtain ⟨cz, hcz⟩ : ∃ z, cmpN (beN n1) QQ = z := ⟨_, rfl⟩
          rw [hcz] at hge ⊢
          clear hcz
          have q1 := iface_eqE 3
          have q2 : ∀ w : World, (Op.equalIn 10000 28 (.agg zs.toArray) (.agg #[.int .u64 0, .int .u64 0, .int .u64 0, .int .u64 0, .int .u64 0, .int .u64 0, .int .u64 0, .int .u64 0, .int .u64 0, .int .u64 0, .int .u64 0, .int .u64 0])).run Tryz.prog w = .ok true w := fun w => by rw [← HZs.out]; exact (eqS U6.zero U6.zero U6.zero U6.zero w).trans (by simp)
          have l2 := Bt.lt
          go_wp2_with (first | (refine wpList_load_run (by rfl) (by rfl) (by rfl) (Bt.load Tryz.underlying28 rfl size_s HLt.out) ?_) | fail)
          go_ret
          exact ⟨rfl, bel⟩
        · obtain ⟨rs, ss, rfl, hr, hs9, hb⟩ := ((hok _ hp).2 _ _ hs).2 cR.1 cR.2
          replace bel := below_step bel hb
          have HPo : Hid _ := parse_ok HB.out hp
          have HSg : Hid (sigP T = some (x, y)) := hs
          have HR : Hid (U6 rs (beN x)) := hr
          have HS : Hid (U6 ss (beN y)) := hs9
          have HcR : Hid _ := cR
          clear hok hbad hb hs cR hr hs9
          have hts : ∃ ts, rs ++ ss = ts := ⟨_, rfl⟩
          obtain ⟨zs, hts⟩ := hts
          have HT : Hid (rs ++ ss = zs) := hts
          rw [hts]
          clear hts
          have HLt : Hid (zs.length = 12) := by show _ = _; rw [← HT.out, List.length_append, HR.out.len, HS.out.len]
          have HSt : Hid (zs.toArray.size = 12) := by show _ = _; rw [List.size_toArray]; exact HLt.out
          have HOt : Hid (OneR zs) := by rw [← HT.out]; exact HR.out.ones.app HS.out.ones
          replace bel := below_alloc (o := .cells zs.toArray 28) bel
          have Bt := Blk.new w2 zs 28 w2.heap.size rfl
          have hz := zero_s.out
          go_upto_region 5 with (first | (refine wpList_store_row rfl 28 _ _ rfl w2.heap.size zs.toArray rfl rfl 28 _ (heap_alloc_last _ _) (by rw [size_s, HSt.out]) (by rw [HSt.out]; rfl) HOt.out ?_; rw [World.setRow_alloc_new]) | fail)
          clear hz
          obtain ⟨gt, hgt⟩ : ∃ g, g = w2.heap.size := ⟨_, rfl⟩
          rw [← hgt] at Bt
          generalize w2.alloc (.cells zs.toArray 28) = Vt at *
          rw [← hgt]
          clear hgt
          go_wp2_with fail
          refine (r12_Parse (HV.out.later bel) HB.out).mono ?_
          rintro e w4 ⟨hokR, _⟩
          obtain ⟨cb, rfl, hdep, hb⟩ := hokR _ hp
          have TB := hdep.now
          replace Bt := Bt.later hb
          replace bel := below_step bel hb
          clear hb
          have HOcb : Hid (OneC cb) := TB.ones
          have HScb : Hid (cb.toArray.size = 5) := by show _ = _; rw [List.size_toArray]; exact TB.five
          clear hokR hdep
          have hz := zero_tlv.out
          go_upto_region 6 with (first | (refine wpList_store_row rfl 61 _ _ rfl w4.heap.size cb.toArray rfl rfl 61 _ (heap_alloc_last _ _) (by rw [size_tlv, HScb.out]) (by rw [HScb.out]; rfl) HOcb.out ?_; rw [World.setRow_alloc_new]) | fail)
          clear hz
          replace bel := below_alloc (o := .cells cb.toArray 61) bel
          have KB := Blk.new w4 cb 61 w4.heap.size rfl
          replace TB := TB.later ((Below.refl _ _).alloc (Nat.le_refl _) (.cells cb.toArray 61))
          replace Bt := Bt.alloc (.cells cb.toArray 61)
          obtain ⟨gT, hgT⟩ : ∃ g, g = w4.heap.size := ⟨_, rfl⟩
          rw [← hgT] at KB ⊢
          clear hgT
          generalize w4.alloc (.cells cb.toArray 61) = w5 at *
          obtain ⟨c, t, m, bb, ks⟩ := T
          rw [TlAt] at TB
          obtain ⟨bv, ka, kc, rfl, hbv, hk1, hk2, hk3⟩ := TB
          have HK : Hid _ := hk3
          obtain ⟨ba, bc, rfl, -, -, -⟩ := hbv
          unfold maxLen at hk2
          clear hk3 HOcb HScb
          have f0 := KB.cell 0 _ rfl
          have f1 := KB.cell 1 _ rfl
          have f2 := KB.cell 2 _ rfl
          have f4 := KB.cell 4 _ rfl
          have lT := KB.lt
          clear hp
          obtain ⟨bb9, k0, k1, hT9, hP0, hP1⟩ := sigP_some HSg.out
          obtain ⟨rfl, rfl, rfl, rfl, rfl⟩ : c = 0 ∧ t = 16 ∧ m = true ∧ bb = bb9 ∧ ks = [k0, k1] := by simpa using hT9
          clear hT9
          obtain ⟨gk, ok, rfl, hks⟩ := HK.out (by show 0 < 2; omega)
          rw [KidsAt, KidsAt] at hks
          obtain ⟨⟨cs0, hc0, ht0⟩, ⟨cs1, hc1, ht1⟩, -⟩ := hks
          have hld0 := tlv_load hc0 ht0.five
          have hld1 := tlv_load hc1 ht1.five
          obtain ⟨c0, t0, m0, b0, l0⟩ := k0
          obtain ⟨c1, t1, m1, b1, l1⟩ := k1
          obtain ⟨hB0, hL0, hB1, hL1⟩ := kids_small HPo.out.2.2.2.1 (by rw [HPo.out.1]; exact HPo.out.2.2.2.2)
          go_wp2_with (first | (refine wpList_load_run (by rfl) (by rfl) (by rfl) hld0 ?_) | fail)
          refine (con_part14 ht0 hB0 hL0).mono ?_
          rintro e w6 h6
          rcases h6 with ⟨n0, v0, hp0, rfl, bs0, by0, len0, hb⟩ | ⟨hp0, -⟩
          rotate_left
          · rw [hP0] at hp0; cases hp0
          obtain rfl : n0 = x := Option.some.inj (hp0.symm.trans hP0)
          replace Bt := Bt.later hb
          replace KB := KB.later hb
          replace bel := below_step bel hb
          replace hc1 := hc1.later hb
          replace ht1 := ht1.later hb
          clear hb
          clear hld0 hld1 f4 lT
          have hld1 := tlv_load hc1 ht1.five
          have f4 := KB.cell 4 _ rfl
          have lT := KB.lt
          go_wp2_with (first | (refine wpList_load_run (by rfl) (by rfl) (by rfl) hld1 ?_) | fail)
          refine (con_part14 ht1 hB1 hL1).mono ?_
          rintro e w7 h7
          rcases h7 with ⟨n1, v1, hp1, rfl, bs1, by1, len1, hb⟩ | ⟨hp1, -⟩
          rotate_left
          · rw [hP1] at hp1; cases hp1
          obtain rfl : n1 = y := Option.some.inj (hp1.symm.trans hP1)
          replace bs0 := bs0.later hb
          replace Bt := Bt.later hb
          replace bel := below_step bel hb
          clear hb
          clear hld1 f4 lT f0 f1 f2 KB hc0 hc1 ht0 ht1 hp0 hp1 hP0 hP1 HK
          have hx0 := bs0
          obtain ⟨xa, xc, rfl, -, -, -⟩ := hx0
          have hy0 := bs1
          obtain ⟨ya, yc, rfl, -, -, -⟩ := hy0
          go_wp2_with fail
          refine (rfrom_any _ _ _ bs0 by0 (by omega)).mono ?_
          rintro e w8 ⟨rv, rfl, N1, hb⟩
          replace bs1 := bs1.later hb
          replace Bt := Bt.later hb
          replace bel := below_step bel hb
          clear hb
          go_wp2_with fail
          refine (rfrom_any _ _ _ bs1 by1 (by omega)).mono ?_
          rintro e w9 ⟨sv, rfl, N2, hb⟩
          replace N1 := N1.later hb
          replace Bt := Bt.later hb
          replace bel := below_step bel hb
          clear hb
          go_wp2_with fail
          refine n_any.mono ?_
          rintro e w10 ⟨qv, rfl, N3, hb⟩
          replace N1 := N1.later hb
          replace N2 := N2.later hb
          replace Bt := Bt.later hb
          replace bel := below_step bel hb
          clear hb
          have HN1 : Hid (NumIs w10 _ (beN n0)) := N1
          have HN2 : Hid (NumIs w10 _ (beN n1)) := N2
          have HN3 : Hid (NumIs w10 _ QQ) := N3
          obtain ⟨ra, rn, rc, rfl, hrn⟩ := num_form N1
          obtain ⟨sa, sn, sc, rfl, hsn⟩ := num_form N2
          clear N1 N2 N3 bs0 bs1
          have nn1 := num_nonneg HN1.out
          have nn2 := num_nonneg HN2.out
          have hc1 := HcR.out.1
          have hc2 := HcR.out.2
          unfold isSc at hc1 hc2
          have d1 : ((rn : Int) == 0) = false := by rw [beq_eq_false_iff_ne]; intro h; have := hrn.1 (by omega); omega
          have d2 : ((sn : Int) == 0) = false := by rw [beq_eq_false_iff_ne]; intro h; have := hsn.1 (by omega); omega
          go_wp2_with fail
          refine (cmp_any _ _ _ _ _ HN1.out HN3.out).mono ?_
          rintro e w11 ⟨rfl, hb⟩
          replace Bt := Bt.later hb
          replace bel := below_step bel hb
          replace HN1 : Hid (NumIs w11 _ (beN n0)) := HN1.out.later hb
          replace HN2 : Hid (NumIs w11 _ (beN n1)) := HN2.out.later hb
          replace HN3 : Hid (NumIs w11 _ QQ) := HN3.out.later hb
          clear hb
          rw [← cmpN_lt hc1.2]
          go_wp2_with fail
          refine (cmp_any _ _ _ _ _ HN2.out HN3.out).mono ?_
          rintro e w12 ⟨rfl, hb⟩
          replace Bt := Bt.later hb
          replace bel := below_step bel hb
          replace HN1 : Hid (NumIs w12 _ (beN n0)) := HN1.out.later hb
          replace HN2 : Hid (NumIs w12 _ (beN n1)) := HN2.out.later hb
          replace HN3 : Hid (NumIs w12 _ QQ) := HN3.out.later hb
          clear hb
          rw [← cmpN_lt hc2.2]
          have q5 := eq_nilE14d
          go_upto_region 21 with fail
          obtain ⟨S1, hS1, KB1, KI1, KD1, KL1, KA1⟩ : ∃ S : World → Prop, Hd S w12 ∧ Hid (∀ wx, Hd S wx → Below w12.heap.size w12 wx) ∧ Hid (∀ wx, Below w12.heap.size w12 wx → Hd S wx) ∧ Hid (∀ wx, Hd S wx → Hd S wx.drew) ∧ Hid (∀ w1 w2, Hd S w1 → Below w1.heap.size w1 w2 → Hd S w2) ∧ Hid (∀ w1 o, Hd S w1 → Hd S (w1.alloc o)) := ⟨fun wx => Below w12.heap.size w12 wx, Below.refl _ _, fun _ h => h, fun _ h => h, fun wx h => Below.drew h, fun w1 w2 h hb => below_step h hb, fun w1 o h => Below.alloc h h.size o⟩
          have HBt : Hid (Blk w12 gt zs) := Bt
          have rt : Hid (∀ wx, Hd S1 wx → (loadVar 28 ⟨gt, 0, none⟩).run Tryz.prog wx = .ok (.agg zs.toArray) wx) := fun wx h => (HBt.out.later (KB1.out wx h)).load Tryz.underlying28 rfl size_s HLt.out
          clear Bt
          refine wp_region_noPanic ?_
          refine wp_region_held_drew (S := Hd S1) (by kernel_rfl) (KD1.out _ hS1) (fun hHeld => ?_)
          clear hS1
          generalize World.drew _ = wd at *
          refine wpAnyH_take (i := 0) (v := ?_) rfl (by kernel_rfl) (by kernel_rfl) (by kernel_rfl) (fun _ _ _ h => h) (Or.inl ⟨by rfl, ?_⟩) (by assumption) ?_
          rotate_left
          · intro w hSw
            go_simp
            with_reducible rfl
          try simp only [Act.put, List.getElem_toArray, List.getElem_cons_zero, List.getElem_cons_succ, List.setIfInBounds_toArray, List.set_cons_zero, List.set_cons_succ]
          refine wpAnyH_take (i := 1) (v := ?_) rfl (by kernel_rfl) (by kernel_rfl) (by kernel_rfl) (fun _ _ _ h => h) (Or.inl ⟨by rfl, ?_⟩) (by assumption) ?_
          rotate_left
          · intro w hSw
            go_simp
            with_reducible rfl
          try simp only [Act.put, List.getElem_toArray, List.getElem_cons_zero, List.getElem_cons_succ, List.setIfInBounds_toArray, List.set_cons_zero, List.set_cons_succ]
          refine wpAnyH_take (i := 2) (v := ?_) rfl (by kernel_rfl) (by kernel_rfl) (by kernel_rfl) (fun _ _ _ h => h) (Or.inl ⟨by rfl, ?_⟩) (by assumption) ?_
          rotate_left
          · intro w hSw
            go_simp
            with_reducible rfl
          try simp only [Act.put, List.getElem_toArray, List.getElem_cons_zero, List.getElem_cons_succ, List.setIfInBounds_toArray, List.set_cons_zero, List.set_cons_succ]
          refine wpAnyH_take (i := 3) (v := ?_) rfl (by kernel_rfl) (by kernel_rfl) (by kernel_rfl) (fun _ _ _ h => h) (Or.inl ⟨by rfl, ?_⟩) (by assumption) ?_
          rotate_left
          · intro w hSw
            go_simp
            with_reducible rfl
          try simp only [Act.put, List.getElem_toArray, List.getElem_cons_zero, List.getElem_cons_succ, List.setIfInBounds_toArray, List.set_cons_zero, List.set_cons_succ]
          refine wpAnyH_take (i := 4) (v := ?_) rfl (by kernel_rfl) (by kernel_rfl) (by kernel_rfl) (fun _ _ _ h => h) (Or.inl ⟨by rfl, ?_⟩) (by assumption) ?_
          rotate_left
          · intro w hSw
            go_simp
            with_reducible rfl
          try simp only [Act.put, List.getElem_toArray, List.getElem_cons_zero, List.getElem_cons_succ, List.setIfInBounds_toArray, List.set_cons_zero, List.set_cons_succ]
          refine wpAnyH_take (i := 5) (v := ?_) rfl (by kernel_rfl) (by kernel_rfl) (by kernel_rfl) (fun _ _ _ h => h) (Or.inl ⟨by rfl, ?_⟩) (by assumption) ?_
          rotate_left
          · intro w hSw
            go_simp
            with_reducible rfl
          try simp only [Act.put, List.getElem_toArray, List.getElem_cons_zero, List.getElem_cons_succ, List.setIfInBounds_toArray, List.set_cons_zero, List.set_cons_succ]
          refine wpAnyH_take (i := 6) (v := .agg zs.toArray) rfl (by kernel_rfl) (by kernel_rfl) (by kernel_rfl) (fun _ _ _ h => h) (Or.inl ⟨by rfl, fun wx h => exec_load rfl rfl (rt.out wx h)⟩) (by assumption) ?_
          try simp only [Act.put, List.getElem_toArray, List.getElem_cons_zero, List.getElem_cons_succ, List.setIfInBounds_toArray, List.set_cons_zero, List.set_cons_succ]
          refine wpAnyH_take (i := 7) (v := ?_) rfl (by kernel_rfl) (by kernel_rfl) (by kernel_rfl) (fun _ _ _ h => h) (Or.inl ⟨by rfl, ?_⟩) (by assumption) ?_
          rotate_left
          · intro w hSw
            go_simp
            with_reducible rfl
          try simp only [Act.put, List.getElem_toArray, List.getElem_cons_zero, List.getElem_cons_succ, List.setIfInBounds_toArray, List.set_cons_zero, List.set_cons_succ]
          refine wpAnyH_take (i := 9) (v := ?_) rfl (by kernel_rfl) (by kernel_rfl) (by kernel_rfl) (fun _ _ _ h => h) (Or.inl ⟨by rfl, ?_⟩) (by assumption) ?_
          rotate_left
          · intro w hSw
            go_simp
            with_reducible rfl
          try simp only [Act.put, List.getElem_toArray, List.getElem_cons_zero, List.getElem_cons_succ, List.setIfInBounds_toArray, List.set_cons_zero, List.set_cons_succ]
          have HH0 : Hid (Hd S1 wd) := hHeld
          refine wpAnyH_ready (rs := [8]) (by kernel_rfl) (by simp) ?_
          refine AllReadyH.cons rfl (fun K hK => ?_) ?_
          · go_simp
            refine (uTo6 (HN1.out.later (KB1.out _ hHeld)) (by omega) (by have h1 := QQ_lt; omega)).mono ?_
            rintro e z8 ⟨ms, rfl, hm, hb⟩
            refine hK.out _ _ ?_ (fun hHeld2 => ?_)
            · exact KL1.out _ _ hHeld hb
            · clear hK K hHeld
              have hHeld := hHeld2
              clear hHeld2
              try simp only [Act.put, List.getElem_toArray, List.getElem_cons_zero, List.getElem_cons_succ, List.setIfInBounds_toArray, List.set_cons_zero, List.set_cons_succ]
              have HM : Hid (U6 ms (beN n0)) := hm
              clear hm hb
              refine wpAnyH_ready (rs := [10]) (by kernel_rfl) (by simp) ?_
              refine AllReadyH.cons rfl (fun K hK => ?_) ?_
              · go_simp
                refine (uTo6 (HN2.out.later (KB1.out _ hHeld)) (by omega) (by have h1 := QQ_lt; omega)).mono ?_
                rintro e z10 ⟨ls, rfl, hm, hb⟩
                refine hK.out _ _ ?_ (fun hHeld2 => ?_)
                · exact KL1.out _ _ hHeld hb
                · clear hK K hHeld
                  have hHeld := hHeld2
                  clear hHeld2
                  try simp only [Act.put, List.getElem_toArray, List.getElem_cons_zero, List.getElem_cons_succ, List.setIfInBounds_toArray, List.set_cons_zero, List.set_cons_succ]
                  have HL9 : Hid (U6 ls (beN n1)) := hm
                  clear hm hb
                  have q7 := build_sig HM.out HL9.out
                  have q8 : ∀ w : World, (Op.equalIn 10000 28 (.agg zs.toArray) (.agg (ms ++ ls).toArray)).run Tryz.prog w = .ok true w := fun w => by rw [← HT.out]; exact (eqS HR.out HS.out HM.out HL9.out w).trans (by rw [decide_eq_true ⟨rfl, rfl⟩])
                  have hu2 : ∃ us, ms ++ ls = us := ⟨_, rfl⟩
                  obtain ⟨us2, hus⟩ := hu2
                  rw [hus] at q7 q8
                  clear hus
                  refine wpAnyH_take (i := 11) (v := .agg us2.toArray) rfl (by kernel_rfl) (by kernel_rfl) (by kernel_rfl) (fun _ _ _ h => h) (Or.inl ⟨by rfl, fun wx h => exec_build14 rfl rfl (q7 wx)⟩) (by assumption) ?_
                  try simp only [Act.put, List.getElem_toArray, List.getElem_cons_zero, List.getElem_cons_succ, List.setIfInBounds_toArray, List.set_cons_zero, List.set_cons_succ]
                  refine wpAnyH_take (i := 12) (v := ?_) rfl (by kernel_rfl) (by kernel_rfl) (by kernel_rfl) (fun _ _ _ h => h) (Or.inl ⟨by rfl, ?_⟩) (by assumption) ?_
                  rotate_left
                  · intro w hSw
                    go_simp
                    with_reducible rfl
                  try simp only [Act.put, List.getElem_toArray, List.getElem_cons_zero, List.getElem_cons_succ, List.setIfInBounds_toArray, List.set_cons_zero, List.set_cons_succ]
                  refine wpAnyH_take (i := 13) (v := ?_) rfl (by kernel_rfl) (by kernel_rfl) (by kernel_rfl) (fun _ _ _ h => h) (Or.inl ⟨by rfl, ?_⟩) (by assumption) ?_
                  rotate_left
                  · intro w hSw
                    go_simp
                    with_reducible rfl
                  try simp only [Act.put, List.getElem_toArray, List.getElem_cons_zero, List.getElem_cons_succ, List.setIfInBounds_toArray, List.set_cons_zero, List.set_cons_succ]
                  refine wpAnyH_take (i := 14) (v := ?_) rfl (by kernel_rfl) (by kernel_rfl) (by kernel_rfl) (fun _ _ _ h => h) (Or.inl ⟨by rfl, ?_⟩) (by assumption) ?_
                  rotate_left
                  · intro w hSw
                    go_simp
                    with_reducible rfl
                  try simp only [Act.put, List.getElem_toArray, List.getElem_cons_zero, List.getElem_cons_succ, List.setIfInBounds_toArray, List.set_cons_zero, List.set_cons_succ]
                  refine wpAnyH_done (by kernel_rfl) ?_ _
                  refine NoPanic.normal ?_
                  have belz := below_step bel (KB1.out _ hHeld)
                  clear rt hHeld
                  go_wp2_with fail
                  go_ret
                  exact ⟨rfl, belz⟩
              exact AllReadyH.nil
          exact AllReadyH.nil
end Go.Proofs.YtjpnbbhpgchbpaaGreatDoor
