/- The law DerDeep. -/
import Derived.Test.YthbncblhkohomaaDoorRows
import Derived.Test.YthbncblhkohomaaDoorDrUp
import Derived.Great.BuildSlice
import Derived.Deep.WholeRow
import Derived.Deep.RegionHeld3
import Derived.Deep.DeepCutAuto
import Derived.Deep.DeepFit
namespace Go.Proofs.YthbncblhkohomaaDoor
open Go.RowKit

def nestT : Nat → Tl
  | 0 => .mk 0 16 true [] []
  | i + 1 => .mk 0 16 true [] [nestT i]
def deepB : Nat → List Int
  | 0 => [48, 0]
  | i + 1 => [48, ((2 * (i + 1) : Nat) : Int)] ++ deepB i
theorem deepB_len : ∀ i, (deepB i).length = 2 * (i + 1)
  | 0 => rfl
  | i + 1 => by rw [deepB, List.length_append, deepB_len i]; simp; omega
theorem deepB_byt : ∀ i, i ≤ 60 → byt (deepB i)
  | 0, _ => byt_consP (by decide) (byt_consP (by decide) byt_nilP)
  | i + 1, h => byt_consP (by decide) (byt_consP (by omega) (deepB_byt i (by omega)))
theorem nest_bytes : ∀ i, i ≤ 60 → bytesT (nestT i) = deepB i
  | 0, _ => by
    rw [nestT, bytesT, bytesL]
    rfl
  | i + 1, h => by
    rw [nestT, bytesT, bytesL, bytesL, List.append_nil, List.nil_append, nest_bytes i (by omega), deepB_len i, deepB]
    have e : lenB (2 * (i + 1)) = [((2 * (i + 1) : Nat) : Int)] := by unfold lenB; rw [if_pos (by omega)]
    rw [e]
    rfl
theorem nest_fine : ∀ i, fineT (nestT i) = true
  | 0 => by rw [nestT, fineT, fineL]; rfl
  | i + 1 => by rw [nestT, fineT, fineL, fineL, nest_fine i]; rfl
theorem nest_dep : ∀ i, depT (nestT i) = i + 1
  | 0 => by rw [nestT, depT, depL]
  | i + 1 => by rw [nestT, depT, depL, depL, nest_dep i]; simp
theorem nest_sz : ∀ i, szT (nestT i) = i + 1
  | 0 => by rw [nestT, szT, szL]
  | i + 1 => by rw [nestT, szT, szL, szL, nest_sz i]; omega
theorem nest_wf : ∀ i, WfT (nestT i)
  | 0 => by rw [nestT, WfT, WfL]; exact ⟨by decide, by decide, byt_nilP, trivial⟩
  | i + 1 => by rw [nestT, WfT, WfL, WfL]; exact ⟨by decide, by decide, byt_nilP, nest_wf i, trivial⟩
theorem deep_16 : parseP (deepB 16) = .error (9, 32) := by kernel_rfl
theorem deep_17 : parseP (deepB 17) = .error (9, 32) := by kernel_rfl
theorem deep_18 : parseP (deepB 18) = .error (9, 32) := by kernel_rfl
theorem deep_19 : parseP (deepB 19) = .error (9, 32) := by kernel_rfl
theorem deep_20 : parseP (deepB 20) = .error (9, 32) := by kernel_rfl
theorem deep_21 : parseP (deepB 21) = .error (9, 32) := by kernel_rfl
theorem deep_22 : parseP (deepB 22) = .error (9, 32) := by kernel_rfl
theorem deep_23 : parseP (deepB 23) = .error (9, 32) := by kernel_rfl
theorem deep_24 : parseP (deepB 24) = .error (9, 32) := by kernel_rfl
theorem deep_25 : parseP (deepB 25) = .error (9, 32) := by kernel_rfl
theorem deep_26 : parseP (deepB 26) = .error (9, 32) := by kernel_rfl
theorem deep_27 : parseP (deepB 27) = .error (9, 32) := by kernel_rfl
theorem deep_28 : parseP (deepB 28) = .error (9, 32) := by kernel_rfl
theorem deep_29 : parseP (deepB 29) = .error (9, 32) := by kernel_rfl
theorem deep_bad {k : Nat} (h1 : 15 < k) (h2 : k < 30) : parseP (deepB k) = .error (9, 32) := by
  have : k = 16 ∨ k = 17 ∨ k = 18 ∨ k = 19 ∨ k = 20 ∨ k = 21 ∨ k = 22 ∨ k = 23 ∨ k = 24 ∨ k = 25 ∨ k = 26 ∨ k = 27 ∨ k = 28 ∨ k = 29 := by omega
  rcases this with rfl | rfl | rfl | rfl | rfl | rfl | rfl | rfl | rfl | rfl | rfl | rfl | rfl | rfl
  · exact deep_16
  · exact deep_17
  · exact deep_18
  · exact deep_19
  · exact deep_20
  · exact deep_21
  · exact deep_22
  · exact deep_23
  · exact deep_24
  · exact deep_25
  · exact deep_26
  · exact deep_27
  · exact deep_28
  · exact deep_29
theorem deep_ok {k : Nat} (h : k ≤ 15) : parseP (deepB k) = .ok (nestT k) := by
  have := parse_of (T := nestT k) (Y := []) (nest_fine k) (by rw [nest_dep]; omega) (by rw [List.append_nil, nest_bytes k (by omega), deepB_len]; omega)
  rw [List.append_nil, nest_bytes k (by omega)] at this
  simpa using this
theorem nest_wr {k : Nat} (h : k < 30) : wrN (nestT k) = if 15 < k then 9 else 0 := by
  unfold wrN
  rw [if_pos (nest_fine k), nest_dep, nest_bytes k (by omega), deepB_len]
  by_cases c : 15 < k
  · rw [if_pos (by omega), if_pos c]
  · rw [if_neg (by omega), if_neg (by omega), if_neg c]
theorem nest_0 {S : Nat → Prop} {w : World} : Dep S w (nestT 0) [.int .i64 0, .int .i64 16, .bool true, .slice none 0 0, .slice none 0 0] := fun w' _ => by
  rw [nestT, TlAt]
  exact ⟨.slice none 0 0, none, 0, rfl, ⟨none, 0, rfl, by decide, by decide, fun h => by simp at h⟩, by simp, by decide, fun h => by simp at h⟩
theorem nest_next {S : Nat → Prop} {w : World} {g i : Nat} {cs : List Value} (B : Blk w g cs) (h : Dep S w (nestT i) cs) (hg : S g) : Dep S w (nestT (i + 1)) [.int .i64 0, .int .i64 16, .bool true, .slice none 0 0, .slice (some ⟨g, 0, none⟩) 1 1] := fun w' ha => by
  rw [nestT, TlAt]
  have B2 := B.agr ha hg
  refine ⟨.slice none 0 0, some ⟨g, 0, none⟩, 1, rfl, ⟨none, 0, rfl, by decide, by decide, fun h => by simp at h⟩, by simp, by decide, fun _ => ⟨g, 0, rfl, ?_⟩⟩
  rw [KidsAt, KidsAt]
  exact ⟨⟨cs, ⟨B2.lt, fun j v hj => by rw [Nat.zero_add]; exact B2.cell j v hj⟩, h w' ha⟩, trivial⟩
set_option linter.unusedSimpArgs false in
set_option maxRecDepth 100000 in
set_option maxHeartbeats 4000000 in
theorem law_derDeep (x : Int) (w : World) (G : GlsE w) (hx : -9223372036854775808 ≤ x ∧ x ≤ 9223372036854775807) :
    Calls Tryd.prog 6 #[.int .i64 x] w fun e w' => e = .returned (.bool true) ∧ Below w.heap.size w w' := by
  have hz := zero_tlv.out
  obtain ⟨j0, hj0, hy0, hy1, hy2⟩ := info_partsD info_tlv
  have HG : Hid (GlsE w) := G
  clear G
  have q := eq_nilcode 0
  have q1 := eq_code
  have q2 := eq_codenil
  have q3 := eq_spotnil
  go_enter Tryd.func6, Tryd.ntmps6
  go_wp2_with fail
  refine (con_up HG.out).mono ?_
  rintro e w1 ⟨rfl, bel⟩
  have HBel : Hid (Below w.heap.size w w1) := bel
  by_cases c0 : x < 0
  · obtain ⟨y, hy⟩ : ∃ y, x + 1 = y := ⟨_, rfl⟩
    obtain ⟨z, hz9⟩ : ∃ z, -y = z := ⟨_, rfl⟩
    have e1 : IntKind.i64.wrap (x + 1) = y := by rw [IntKind.wrap_i64]; omega
    have e2 : IntKind.i64.wrap (-y) = z := by rw [IntKind.wrap_i64]; omega
    obtain ⟨k, hk0⟩ : ∃ k : Nat, (z.toNat) % 30 = k := ⟨_, rfl⟩
    have e3 : z.tmod 30 = (k : Int) := by rw [Int.tmod_eq_emod_of_nonneg (by omega)]; omega
    have hk : k < 30 := by omega
    clear hy hz9 hk0
    have T0 := Blk.new w1 [.int .i64 0, .int .i64 16, .bool true, .slice none 0 0, .slice none 0 0] 26 w1.heap.size rfl
    replace bel := below_alloc (o := .cells #[.int .i64 0, .int .i64 16, .bool true, .slice none 0 0, .slice none 0 0] 26) bel
    have sz1 : w.heap.size ≤ w1.heap.size := HBel.out.size
    go_upto_region 6 with (first | (refine wpList_store_row rfl 26 _ _ rfl w1.heap.size #[.int .i64 0, .int .i64 16, .bool true, .slice none 0 0, .slice none 0 0] rfl rfl 26 _ (heap_alloc_last _ _) (by rw [size_tlv]; rfl) rfl (by simp [Value.oneCell']) ?_; rw [World.setRow_alloc_new]) | fail)
    obtain ⟨gt, hgt⟩ : ∃ g, g = w1.heap.size := ⟨_, rfl⟩
    rw [← hgt] at T0 sz1 ⊢
    generalize w1.alloc (.cells #[.int .i64 0, .int .i64 16, .bool true, .slice none 0 0, .slice none 0 0] 26) = w2 at *
    clear hgt hz
    have lt0 := T0.lt
    have own0 := own_lits w2 [48, 0] 2 (gt + 1) rfl lt0 (by decide)
    have D0 : Dep (fun b => b ≠ gt) (w2.alloc (.cells (u8s [48, 0]).toArray 5)) (nestT 0) [.int .i64 0, .int .i64 16, .bool true, .slice none 0 0, .slice none 0 0] := nest_0
    replace T0 := T0.alloc (.cells (u8s [48, 0]).toArray 5)
    replace bel := below_alloc (o := .cells (u8s [48, 0]).toArray 5) bel
    go_upto_region 7 with fail
    replace own0 : (w2.alloc (.cells (u8s [48, 0]).toArray 5)).ownsRow (gt + 1) 5 1 _ (deepB 0).length (u8s (deepB 0)) := own0
    obtain ⟨w3, hw3⟩ : ∃ z, z = w2.alloc (.cells (u8s [48, 0]).toArray 5) := ⟨_, rfl⟩
    have ew3 : w2.alloc (.cells #[.int .u8 48, .int .u8 0] 5) = w3 := hw3.symm
    rw [← hw3] at own0 T0 bel D0
    rw [ew3]
    have HD0 : Hid _ := D0
    clear hw3 ew3 D0 lt0
    go_wp2_with fail
    go_loopw [5, 6] (fun bv iv wx => ∃ (i : Nat) (ct : List Value), i ≤ k ∧ iv = .int .i64 (i : Int) ∧ wx.ownsRow (gt + 1) 5 1 bv (deepB i).length (u8s (deepB i)) ∧ Blk wx gt ct ∧ Hid (Dep (fun b => b ≠ gt) wx (nestT i) ct) ∧ Below w.heap.size w wx) (fun _ iv _ => k - (intOf iv).toNat)
    case atStart => exact ⟨0, _, by omega, rfl, own0, T0, HD0, bel⟩
    case round =>
      clear own0 T0 HD0 bel
      obtain ⟨i, ct, hi, rfl, own, T0, HD, bel⟩ := hrel
      have l5 := HD.out.now.five
      have HL5 : Hid (ct.length = 5) := l5
      have HS5 : Hid (ct.toArray.size = 5) := by show _ = _; rw [List.size_toArray]; exact l5
      have HO5 : Hid (OneC ct) := HD.out.now.ones
      obtain ⟨n, hn⟩ : ∃ n, 2 * (i + 1) = n := ⟨_, rfl⟩
      rw [deepB_len, hn] at own
      obtain ⟨va, vc, rfl, vk1, vk2⟩ := own_slice own
      have lt0 := T0.lt
      by_cases hil : i < k
      · have g1 : (i : Int) < (k : Int) := by omega
        have gi : IntKind.i64.wrap ((i : Int) + 1) = (i : Int) + 1 := by rw [IntKind.wrap_i64]; omega
        have HF : Hid _ := fill_5 HL5.out
        have KB := Blk.new wr ct 26 wr.heap.size rfl
        have T1 := T0.alloc (.cells ct.toArray 26)
        obtain ⟨tT, hT⟩ := T1
        have HTt : Hid _ := hT
        clear hT
        go_upto_region 11 with (first
          | (refine wpList_load_run (by rfl) (by rfl) (by rfl) (T0.load Tryd.underlying26 rfl size_tlv HL5.out) ?_; refine Go.wpList_buildSlice rfl 24 26 1 _ rfl ct.toArray j0 _ Tryd.underlying24 hj0 hy0 (by rw [hy1]; decide) (by rw [hy1]; decide) (by rw [hy1]; refine (congrArg _ (?_ : _ = [(0, Value.agg ct.toArray)])).trans HF.out; kernel_rfl) ?_)
          | (refine wpList_store_row rfl 26 _ _ rfl gt #[.int .i64 0, .int .i64 16, .bool true, .slice none 0 0, .slice (some ⟨wr.heap.size, 0, none⟩) 1 1] rfl rfl tT ct.toArray HTt.out (by rw [size_tlv]; rfl) (by rw [HS5.out]; rfl) (by simp [Value.oneCell']) ?_)
          | fail)
        have T2 : Blk ((wr.alloc (.cells ct.toArray 26)).setRow gt #[.int .i64 0, .int .i64 16, .bool true, .slice none 0 0, .slice (some ⟨wr.heap.size, 0, none⟩) 1 1]) gt [.int .i64 0, .int .i64 16, .bool true, .slice none 0 0, .slice (some ⟨wr.heap.size, 0, none⟩) 1 1] := ⟨tT, setRow_heap _ _ _ _ _ _ HTt.out⟩
        have KB2 := KB.row (cs := #[.int .i64 0, .int .i64 16, .bool true, .slice none 0 0, .slice (some ⟨wr.heap.size, 0, none⟩) 1 1]) (c := gt) (by omega)
        have hA : Agr (fun b => b ≠ gt) wr ((wr.alloc (.cells ct.toArray 26)).setRow gt #[.int .i64 0, .int .i64 16, .bool true, .slice none 0 0, .slice (some ⟨wr.heap.size, 0, none⟩) 1 1]) := Agr.row (Agr.below ((Below.refl _ _).alloc (Nat.le_refl _) _)) (by show ¬ (gt ≠ gt); simp)
        have HD2 : Hid (Dep (fun b => b ≠ gt) ((wr.alloc (.cells ct.toArray 26)).setRow gt #[.int .i64 0, .int .i64 16, .bool true, .slice none 0 0, .slice (some ⟨wr.heap.size, 0, none⟩) 1 1]) (nestT (i + 1)) [.int .i64 0, .int .i64 16, .bool true, .slice none 0 0, .slice (some ⟨wr.heap.size, 0, none⟩) 1 1]) := nest_next KB2 (HD.out.next hA (fun b hb _ => hb)) (by show wr.heap.size ≠ gt; omega)
        have own2 := own_agr own hA (fun g hg => by have := own_geD own hg; show g ≠ gt; omega)
        have bel2 := below_setRow (below_alloc (o := .cells ct.toArray 26) bel) (show w.heap.size ≤ gt by omega) #[.int .i64 0, .int .i64 16, .bool true, .slice none 0 0, .slice (some ⟨wr.heap.size, 0, none⟩) 1 1]
        have sz2 : wr.heap.size < ((wr.alloc (.cells ct.toArray 26)).setRow gt #[.int .i64 0, .int .i64 16, .bool true, .slice none 0 0, .slice (some ⟨wr.heap.size, 0, none⟩) 1 1]).heap.size := by simp [World.setRow]
        obtain ⟨w4, hw4⟩ : ∃ z, z = (wr.alloc (.cells ct.toArray 26)).setRow gt #[.int .i64 0, .int .i64 16, .bool true, .slice none 0 0, .slice (some ⟨wr.heap.size, 0, none⟩) 1 1] := ⟨_, rfl⟩
        rw [← hw4] at T2 HD2 own2 bel2 sz2 ⊢
        clear hA KB KB2 hw4
        obtain ⟨gn, hgn⟩ : ∃ g, g = wr.heap.size := ⟨_, rfl⟩
        have lgn : gt < gn := by omega
        rw [← hgn] at T2 HD2 sz2 ⊢
        clear own T0 HTt bel HD hgn lt0
        have HDn : Hid (deepB (i + 1) = [48, (n : Int)] ++ deepB i) := by show _ = _; rw [deepB, hn]
        have Hn : Hid (2 * (i + 1) = n) := hn
        have u1 : IntKind.u8.wrap (n : Int) = (n : Int) := by rw [IntKind.wrap_u8]; omega
        have own3 := own_lits w4 [48, (n : Int)] 2 w4.heap.size rfl (Nat.le_refl _) (by decide)
        have hbl : Below w4.heap.size w4 (w4.alloc (.cells (u8s [48, (n : Int)]).toArray 5)) := (Below.refl _ _).alloc (Nat.le_refl _) _
        have bsb := (Bs.of_own own2).later hbl
        have hdl : (deepB i).length = n := by rw [deepB_len]; exact hn
        have hnb : n ≤ 60 := by omega
        clear hn
        go_upto_region 9 with (first | (at_builtin; refine wpList_append_bs (by rfl) _ _ (by rfl) w4.heap.size _ 2 [48, (n : Int)] (by rfl) own3 _ (deepB i) (by rfl) bsb (by omega) (by simp) ?_; intro v5 w5 own5 hgrow hat) | fail)
        have hb5 := below_own (base := w4.heap.size) hbl hgrow (by simp) (fun g hg => own_geD own3 hg) (Nat.le_refl _)
        have own6 := own_lowerD own5 (show gt + 1 ≤ w4.heap.size by omega)
        have e6 : 2 + (deepB i).length = (deepB (i + 1)).length := by rw [deepB_len, deepB_len]; omega
        rw [← HDn.out, e6] at own6
        replace T2 := T2.later hb5
        replace bel2 := below_stepD bel2 hb5
        have HD3 : Hid (Dep (fun b => b ≠ gt) w5 (nestT (i + 1)) _) := HD2.out.next (Agr.below hb5) (fun b hb _ => hb)
        clear own5 hgrow hat hb5 own3 hbl bsb own2 HD2 hdl e6
        go_wp2_with fail
        go_roundw
        case rel => exact ⟨i + 1, _, by omega, by go_num, own6, T2, HD3, bel2⟩
        case measure => simp [intOf]; omega
      · have HI : Hid (i = k) := by show i = k; omega
        have g1 : ¬ (i : Int) < (k : Int) := by omega
        obtain rfl := HI.out
        have TA := HD.out.now
        have HWr : Hid _ := nest_wr hk
        have HBy : Hid (bytesT (nestT i) = deepB i) := nest_bytes i (by omega)
        have bsb := Bs.of_own own
        clear own HD HI
        go_wp2_with (first | (refine wpList_load_run (by rfl) (by rfl) (by rfl) (T0.load Tryd.underlying26 rfl size_tlv HL5.out) ?_) | fail)
        refine (con_Write TA (nest_wf i) (by rw [nest_sz]; omega) (by rw [HBy.out, deepB_len]; omega)).mono ?_
        rintro e w6 ⟨v6, er6, rfl, hwr, hb⟩
        replace bel := below_stepD bel hb
        replace bsb := bsb.later hb
        clear hb TA T0 lt0
        have hz := zero_tlv.out
        go_wp2_with fail
        refine (con_Parse bsb (deepB_byt i (by omega))).mono ?_
        rintro e w7 ⟨hok, hbad⟩
        by_cases c5 : 15 < i
        · have g5 : (15 : Int) < (i : Int) := by omega
          obtain ⟨ca, er, rfl, TA, hEr, _, hb⟩ := hbad 9 32 (deep_bad c5 hk)
          replace bel := below_stepD bel hb
          have HOca : Hid (OneC ca) := TA.ones
          have HSca : Hid (ca.toArray.size = 5) := by show _ = _; rw [List.size_toArray]; exact TA.five
          clear hok hbad hb TA
          go_upto_region 14 with (first | (refine wpList_store_row rfl 26 _ _ rfl w7.heap.size ca.toArray rfl rfl 26 _ (heap_alloc_last _ _) (by rw [size_tlv, HSca.out]) (by rw [HSca.out]; rfl) HOca.out ?_; rw [World.setRow_alloc_new]) | fail)
          replace bel := below_alloc (o := .cells ca.toArray 26) bel
          have KBca := Blk.new w7 ca 26 w7.heap.size rfl
          obtain ⟨ga, hgga⟩ : ∃ g, g = w7.heap.size := ⟨_, rfl⟩
          rw [← hgga] at KBca ⊢
          have hbx := (Below.refl _ _).alloc (Nat.le_refl _) (.cells ca.toArray 26) (w := w7) (B := w7.heap.size)
          generalize w7.alloc (.cells ca.toArray 26) = w8 at *
          clear hgga
          replace hEr := hEr.later hbx
          clear hbx hz
          obtain ⟨sg, rfl, SB⟩ := hEr.spot (by decide)
          obtain ⟨_, rfl⟩ := hwr.2 (by rw [HWr.out, if_pos c5]; decide)
          rw [HWr.out, if_pos c5]
          go_wp2_with fail
          refine (con_IsSpot (HG.out.below bel) SB).mono ?_
          rintro e w9 ⟨rfl, hb⟩
          replace bel := below_stepD bel hb
          go_wp2_with fail
          go_ret
          exact ⟨rfl, bel⟩
        · have g5 : ¬ (15 : Int) < (i : Int) := by omega
          obtain ⟨ca, rfl, hdep, hb⟩ := hok (nestT i) (deep_ok (by omega))
          replace bel := below_stepD bel hb
          have TA := hdep.now
          have HOca : Hid (OneC ca) := TA.ones
          have HSca : Hid (ca.toArray.size = 5) := by show _ = _; rw [List.size_toArray]; exact TA.five
          obtain ⟨fr6, rfl⟩ := hwr.1 (by rw [HWr.out, if_neg c5])
          have bs6 := fr6.bs.later hb
          rw [HBy.out] at bs6
          have bs7 := bsb.later hb
          clear hok hbad hb TA hdep fr6 hwr
          go_upto_region 14 with (first | (refine wpList_store_row rfl 26 _ _ rfl w7.heap.size ca.toArray rfl rfl 26 _ (heap_alloc_last _ _) (by rw [size_tlv, HSca.out]) (by rw [HSca.out]; rfl) HOca.out ?_; rw [World.setRow_alloc_new]) | fail)
          replace bel := below_alloc (o := .cells ca.toArray 26) bel
          have KBca := Blk.new w7 ca 26 w7.heap.size rfl
          obtain ⟨ga, hgga⟩ : ∃ g, g = w7.heap.size := ⟨_, rfl⟩
          rw [← hgga] at KBca ⊢
          have hbx := (Below.refl _ _).alloc (Nat.le_refl _) (.cells ca.toArray 26) (w := w7) (B := w7.heap.size)
          generalize w7.alloc (.cells ca.toArray 26) = w8 at *
          clear hgga
          replace bs6 := bs6.later hbx
          replace bs7 := bs7.later hbx
          clear hbx hz
          have cv1 := conv_any bs6
          have cv2 := conv_any bs7
          obtain ⟨S, hS⟩ : ∃ S, strOfNums (deepB i) = S := ⟨_, rfl⟩
          rw [hS] at cv1 cv2
          have hse : (S.toList == S.toList) = true := by simp
          clear bs6 bs7 hS
          go_wp2_with fail
          go_ret
          exact ⟨rfl, bel⟩
  · obtain ⟨k, hk0⟩ : ∃ k : Nat, (x.toNat) % 30 = k := ⟨_, rfl⟩
    have e3 : x.tmod 30 = (k : Int) := by rw [Int.tmod_eq_emod_of_nonneg (by omega)]; omega
    have hk : k < 30 := by omega
    clear hk0
    have T0 := Blk.new w1 [.int .i64 0, .int .i64 16, .bool true, .slice none 0 0, .slice none 0 0] 26 w1.heap.size rfl
    replace bel := below_alloc (o := .cells #[.int .i64 0, .int .i64 16, .bool true, .slice none 0 0, .slice none 0 0] 26) bel
    have sz1 : w.heap.size ≤ w1.heap.size := HBel.out.size
    go_upto_region 6 with (first | (refine wpList_store_row rfl 26 _ _ rfl w1.heap.size #[.int .i64 0, .int .i64 16, .bool true, .slice none 0 0, .slice none 0 0] rfl rfl 26 _ (heap_alloc_last _ _) (by rw [size_tlv]; rfl) rfl (by simp [Value.oneCell']) ?_; rw [World.setRow_alloc_new]) | fail)
    obtain ⟨gt, hgt⟩ : ∃ g, g = w1.heap.size := ⟨_, rfl⟩
    rw [← hgt] at T0 sz1 ⊢
    generalize w1.alloc (.cells #[.int .i64 0, .int .i64 16, .bool true, .slice none 0 0, .slice none 0 0] 26) = w2 at *
    clear hgt hz
    have lt0 := T0.lt
    have own0 := own_lits w2 [48, 0] 2 (gt + 1) rfl lt0 (by decide)
    have D0 : Dep (fun b => b ≠ gt) (w2.alloc (.cells (u8s [48, 0]).toArray 5)) (nestT 0) [.int .i64 0, .int .i64 16, .bool true, .slice none 0 0, .slice none 0 0] := nest_0
    replace T0 := T0.alloc (.cells (u8s [48, 0]).toArray 5)
    replace bel := below_alloc (o := .cells (u8s [48, 0]).toArray 5) bel
    go_upto_region 7 with fail
    replace own0 : (w2.alloc (.cells (u8s [48, 0]).toArray 5)).ownsRow (gt + 1) 5 1 _ (deepB 0).length (u8s (deepB 0)) := own0
    obtain ⟨w3, hw3⟩ : ∃ z, z = w2.alloc (.cells (u8s [48, 0]).toArray 5) := ⟨_, rfl⟩
    have ew3 : w2.alloc (.cells #[.int .u8 48, .int .u8 0] 5) = w3 := hw3.symm
    rw [← hw3] at own0 T0 bel D0
    rw [ew3]
    have HD0 : Hid _ := D0
    clear hw3 ew3 D0 lt0
    go_wp2_with fail
    go_loopw [5, 6] (fun bv iv wx => ∃ (i : Nat) (ct : List Value), i ≤ k ∧ iv = .int .i64 (i : Int) ∧ wx.ownsRow (gt + 1) 5 1 bv (deepB i).length (u8s (deepB i)) ∧ Blk wx gt ct ∧ Hid (Dep (fun b => b ≠ gt) wx (nestT i) ct) ∧ Below w.heap.size w wx) (fun _ iv _ => k - (intOf iv).toNat)
    case atStart => exact ⟨0, _, by omega, rfl, own0, T0, HD0, bel⟩
    case round =>
      clear own0 T0 HD0 bel
      obtain ⟨i, ct, hi, rfl, own, T0, HD, bel⟩ := hrel
      have l5 := HD.out.now.five
      have HL5 : Hid (ct.length = 5) := l5
      have HS5 : Hid (ct.toArray.size = 5) := by show _ = _; rw [List.size_toArray]; exact l5
      have HO5 : Hid (OneC ct) := HD.out.now.ones
      obtain ⟨n, hn⟩ : ∃ n, 2 * (i + 1) = n := ⟨_, rfl⟩
      rw [deepB_len, hn] at own
      obtain ⟨va, vc, rfl, vk1, vk2⟩ := own_slice own
      have lt0 := T0.lt
      by_cases hil : i < k
      · have g1 : (i : Int) < (k : Int) := by omega
        have gi : IntKind.i64.wrap ((i : Int) + 1) = (i : Int) + 1 := by rw [IntKind.wrap_i64]; omega
        have HF : Hid _ := fill_5 HL5.out
        have KB := Blk.new wr ct 26 wr.heap.size rfl
        have T1 := T0.alloc (.cells ct.toArray 26)
        obtain ⟨tT, hT⟩ := T1
        have HTt : Hid _ := hT
        clear hT
        go_upto_region 11 with (first
          | (refine wpList_load_run (by rfl) (by rfl) (by rfl) (T0.load Tryd.underlying26 rfl size_tlv HL5.out) ?_; refine Go.wpList_buildSlice rfl 24 26 1 _ rfl ct.toArray j0 _ Tryd.underlying24 hj0 hy0 (by rw [hy1]; decide) (by rw [hy1]; decide) (by rw [hy1]; refine (congrArg _ (?_ : _ = [(0, Value.agg ct.toArray)])).trans HF.out; kernel_rfl) ?_)
          | (refine wpList_store_row rfl 26 _ _ rfl gt #[.int .i64 0, .int .i64 16, .bool true, .slice none 0 0, .slice (some ⟨wr.heap.size, 0, none⟩) 1 1] rfl rfl tT ct.toArray HTt.out (by rw [size_tlv]; rfl) (by rw [HS5.out]; rfl) (by simp [Value.oneCell']) ?_)
          | fail)
        have T2 : Blk ((wr.alloc (.cells ct.toArray 26)).setRow gt #[.int .i64 0, .int .i64 16, .bool true, .slice none 0 0, .slice (some ⟨wr.heap.size, 0, none⟩) 1 1]) gt [.int .i64 0, .int .i64 16, .bool true, .slice none 0 0, .slice (some ⟨wr.heap.size, 0, none⟩) 1 1] := ⟨tT, setRow_heap _ _ _ _ _ _ HTt.out⟩
        have KB2 := KB.row (cs := #[.int .i64 0, .int .i64 16, .bool true, .slice none 0 0, .slice (some ⟨wr.heap.size, 0, none⟩) 1 1]) (c := gt) (by omega)
        have hA : Agr (fun b => b ≠ gt) wr ((wr.alloc (.cells ct.toArray 26)).setRow gt #[.int .i64 0, .int .i64 16, .bool true, .slice none 0 0, .slice (some ⟨wr.heap.size, 0, none⟩) 1 1]) := Agr.row (Agr.below ((Below.refl _ _).alloc (Nat.le_refl _) _)) (by show ¬ (gt ≠ gt); simp)
        have HD2 : Hid (Dep (fun b => b ≠ gt) ((wr.alloc (.cells ct.toArray 26)).setRow gt #[.int .i64 0, .int .i64 16, .bool true, .slice none 0 0, .slice (some ⟨wr.heap.size, 0, none⟩) 1 1]) (nestT (i + 1)) [.int .i64 0, .int .i64 16, .bool true, .slice none 0 0, .slice (some ⟨wr.heap.size, 0, none⟩) 1 1]) := nest_next KB2 (HD.out.next hA (fun b hb _ => hb)) (by show wr.heap.size ≠ gt; omega)
        have own2 := own_agr own hA (fun g hg => by have := own_geD own hg; show g ≠ gt; omega)
        have bel2 := below_setRow (below_alloc (o := .cells ct.toArray 26) bel) (show w.heap.size ≤ gt by omega) #[.int .i64 0, .int .i64 16, .bool true, .slice none 0 0, .slice (some ⟨wr.heap.size, 0, none⟩) 1 1]
        have sz2 : wr.heap.size < ((wr.alloc (.cells ct.toArray 26)).setRow gt #[.int .i64 0, .int .i64 16, .bool true, .slice none 0 0, .slice (some ⟨wr.heap.size, 0, none⟩) 1 1]).heap.size := by simp [World.setRow]
        obtain ⟨w4, hw4⟩ : ∃ z, z = (wr.alloc (.cells ct.toArray 26)).setRow gt #[.int .i64 0, .int .i64 16, .bool true, .slice none 0 0, .slice (some ⟨wr.heap.size, 0, none⟩) 1 1] := ⟨_, rfl⟩
        rw [← hw4] at T2 HD2 own2 bel2 sz2 ⊢
        clear hA KB KB2 hw4
        obtain ⟨gn, hgn⟩ : ∃ g, g = wr.heap.size := ⟨_, rfl⟩
        have lgn : gt < gn := by omega
        rw [← hgn] at T2 HD2 sz2 ⊢
        clear own T0 HTt bel HD hgn lt0
        have HDn : Hid (deepB (i + 1) = [48, (n : Int)] ++ deepB i) := by show _ = _; rw [deepB, hn]
        have Hn : Hid (2 * (i + 1) = n) := hn
        have u1 : IntKind.u8.wrap (n : Int) = (n : Int) := by rw [IntKind.wrap_u8]; omega
        have own3 := own_lits w4 [48, (n : Int)] 2 w4.heap.size rfl (Nat.le_refl _) (by decide)
        have hbl : Below w4.heap.size w4 (w4.alloc (.cells (u8s [48, (n : Int)]).toArray 5)) := (Below.refl _ _).alloc (Nat.le_refl _) _
        have bsb := (Bs.of_own own2).later hbl
        have hdl : (deepB i).length = n := by rw [deepB_len]; exact hn
        have hnb : n ≤ 60 := by omega
        clear hn
        go_upto_region 9 with (first | (at_builtin; refine wpList_append_bs (by rfl) _ _ (by rfl) w4.heap.size _ 2 [48, (n : Int)] (by rfl) own3 _ (deepB i) (by rfl) bsb (by omega) (by simp) ?_; intro v5 w5 own5 hgrow hat) | fail)
        have hb5 := below_own (base := w4.heap.size) hbl hgrow (by simp) (fun g hg => own_geD own3 hg) (Nat.le_refl _)
        have own6 := own_lowerD own5 (show gt + 1 ≤ w4.heap.size by omega)
        have e6 : 2 + (deepB i).length = (deepB (i + 1)).length := by rw [deepB_len, deepB_len]; omega
        rw [← HDn.out, e6] at own6
        replace T2 := T2.later hb5
        replace bel2 := below_stepD bel2 hb5
        have HD3 : Hid (Dep (fun b => b ≠ gt) w5 (nestT (i + 1)) _) := HD2.out.next (Agr.below hb5) (fun b hb _ => hb)
        clear own5 hgrow hat hb5 own3 hbl bsb own2 HD2 hdl e6
        go_wp2_with fail
        go_roundw
        case rel => exact ⟨i + 1, _, by omega, by go_num, own6, T2, HD3, bel2⟩
        case measure => simp [intOf]; omega
      · have HI : Hid (i = k) := by show i = k; omega
        have g1 : ¬ (i : Int) < (k : Int) := by omega
        obtain rfl := HI.out
        have TA := HD.out.now
        have HWr : Hid _ := nest_wr hk
        have HBy : Hid (bytesT (nestT i) = deepB i) := nest_bytes i (by omega)
        have bsb := Bs.of_own own
        clear own HD HI
        go_wp2_with (first | (refine wpList_load_run (by rfl) (by rfl) (by rfl) (T0.load Tryd.underlying26 rfl size_tlv HL5.out) ?_) | fail)
        refine (con_Write TA (nest_wf i) (by rw [nest_sz]; omega) (by rw [HBy.out, deepB_len]; omega)).mono ?_
        rintro e w6 ⟨v6, er6, rfl, hwr, hb⟩
        replace bel := below_stepD bel hb
        replace bsb := bsb.later hb
        clear hb TA T0 lt0
        have hz := zero_tlv.out
        go_wp2_with fail
        refine (con_Parse bsb (deepB_byt i (by omega))).mono ?_
        rintro e w7 ⟨hok, hbad⟩
        by_cases c5 : 15 < i
        · have g5 : (15 : Int) < (i : Int) := by omega
          obtain ⟨ca, er, rfl, TA, hEr, _, hb⟩ := hbad 9 32 (deep_bad c5 hk)
          replace bel := below_stepD bel hb
          have HOca : Hid (OneC ca) := TA.ones
          have HSca : Hid (ca.toArray.size = 5) := by show _ = _; rw [List.size_toArray]; exact TA.five
          clear hok hbad hb TA
          go_upto_region 14 with (first | (refine wpList_store_row rfl 26 _ _ rfl w7.heap.size ca.toArray rfl rfl 26 _ (heap_alloc_last _ _) (by rw [size_tlv, HSca.out]) (by rw [HSca.out]; rfl) HOca.out ?_; rw [World.setRow_alloc_new]) | fail)
          replace bel := below_alloc (o := .cells ca.toArray 26) bel
          have KBca := Blk.new w7 ca 26 w7.heap.size rfl
          obtain ⟨ga, hgga⟩ : ∃ g, g = w7.heap.size := ⟨_, rfl⟩
          rw [← hgga] at KBca ⊢
          have hbx := (Below.refl _ _).alloc (Nat.le_refl _) (.cells ca.toArray 26) (w := w7) (B := w7.heap.size)
          generalize w7.alloc (.cells ca.toArray 26) = w8 at *
          clear hgga
          replace hEr := hEr.later hbx
          clear hbx hz
          obtain ⟨sg, rfl, SB⟩ := hEr.spot (by decide)
          obtain ⟨_, rfl⟩ := hwr.2 (by rw [HWr.out, if_pos c5]; decide)
          rw [HWr.out, if_pos c5]
          go_wp2_with fail
          refine (con_IsSpot (HG.out.below bel) SB).mono ?_
          rintro e w9 ⟨rfl, hb⟩
          replace bel := below_stepD bel hb
          go_wp2_with fail
          go_ret
          exact ⟨rfl, bel⟩
        · have g5 : ¬ (15 : Int) < (i : Int) := by omega
          obtain ⟨ca, rfl, hdep, hb⟩ := hok (nestT i) (deep_ok (by omega))
          replace bel := below_stepD bel hb
          have TA := hdep.now
          have HOca : Hid (OneC ca) := TA.ones
          have HSca : Hid (ca.toArray.size = 5) := by show _ = _; rw [List.size_toArray]; exact TA.five
          obtain ⟨fr6, rfl⟩ := hwr.1 (by rw [HWr.out, if_neg c5])
          have bs6 := fr6.bs.later hb
          rw [HBy.out] at bs6
          have bs7 := bsb.later hb
          clear hok hbad hb TA hdep fr6 hwr
          go_upto_region 14 with (first | (refine wpList_store_row rfl 26 _ _ rfl w7.heap.size ca.toArray rfl rfl 26 _ (heap_alloc_last _ _) (by rw [size_tlv, HSca.out]) (by rw [HSca.out]; rfl) HOca.out ?_; rw [World.setRow_alloc_new]) | fail)
          replace bel := below_alloc (o := .cells ca.toArray 26) bel
          have KBca := Blk.new w7 ca 26 w7.heap.size rfl
          obtain ⟨ga, hgga⟩ : ∃ g, g = w7.heap.size := ⟨_, rfl⟩
          rw [← hgga] at KBca ⊢
          have hbx := (Below.refl _ _).alloc (Nat.le_refl _) (.cells ca.toArray 26) (w := w7) (B := w7.heap.size)
          generalize w7.alloc (.cells ca.toArray 26) = w8 at *
          clear hgga
          replace bs6 := bs6.later hbx
          replace bs7 := bs7.later hbx
          clear hbx hz
          have cv1 := conv_any bs6
          have cv2 := conv_any bs7
          obtain ⟨S, hS⟩ : ∃ S, strOfNums (deepB i) = S := ⟨_, rfl⟩
          rw [hS] at cv1 cv2
          have hse : (S.toList == S.toList) = true := by simp
          clear bs6 bs7 hS
          go_wp2_with fail
          go_ret
          exact ⟨rfl, bel⟩
end Go.Proofs.YthbncblhkohomaaDoor
