/- The law NameStays. -/
import Derived.Test.YtineihnipidmfaaRows
import Derived.Test.YtineihnipidmfaaNmUp
import Derived.Test.YtineihnipidmfaaNmSame
import Derived.Test.YtineihnipidmfaaNmFact
import Derived.Test.YtineihnipidmfaaNlElem
import Derived.Test.YtineihnipidmfaaNlPG
import Derived.Test.YtineihnipidmfaaDrSame
import Derived.Test.YtineihnipidmfaaApPt
import Derived.Test.YtineihnipidmfaaNmRd
import Derived.Test.YtineihnipidmfaaWrPl
import Derived.Test.YtineihnipidmfaaNmOwn
import Derived.Deep.OwnRows
import Derived.Deep.AppendLies
import Derived.Great.BuildSlice
import Derived.Laws.Rows
import Derived.BigQuiet
import Derived.Deep.WholeRow
import Derived.Deep.RegionHeld3
import Derived.Deep.DeepCutAuto
import Derived.Deep.DeepFit
namespace Go.Proofs.Ytineihnipidmfaa
open Go.RowKit

theorem size_pt : (Try.prog.info? 47).map (·.size) = some 2 := by kernel_rfl
theorem eq_codeN (c : Int) : ∀ w : World, (binOp .eql 30 (.iface 34 (.int .i64 c)) .nilIface).run Try.prog w = .ok (.bool false) w := fun _ => by kernel_rfl
theorem ne_codeN (c : Int) : ∀ w : World, (binOp .neq 30 (.iface 34 (.int .i64 c)) .nilIface).run Try.prog w = .ok (.bool true) w := fun _ => by kernel_rfl
theorem ne_nilN : ∀ w : World, (binOp .neq 30 .nilIface .nilIface).run Try.prog w = .ok (.bool false) w := fun _ => by kernel_rfl
set_option linter.unusedSimpArgs false in
set_option maxRecDepth 100000 in
set_option maxHeartbeats 8000000 in
theorem law_nameStays {v : Value} {n : List Pn} {w : World} (hn : NmAt w v n) (wn : WfN n) :
    Calls Try.prog 7 #[v] w fun e w' => e = .returned (.bool true) ∧ Below w.heap.size w w' := by
  have HN : Hid (NmAt w v n) := hn
  obtain ⟨a1, c1, rfl, -, -, -⟩ := hn
  obtain ⟨L, hL⟩ : ∃ L, n.length = L := ⟨_, rfl⟩
  have HL : Hid (n.length = L) := hL
  rw [hL] at HN ⊢
  clear hL
  go_enter Try.func7, Try.ntmps7
  go_wp2_with fail
  refine con_up16.mono ?_
  rintro e w1 ⟨rfl, bel⟩
  by_cases hl : 1000 < L
  · have g1 : (1000 : Int) < (L : Int) := by omega
    go_wp2_with fail
    go_ret
    exact ⟨rfl, bel⟩
  have g1 : ¬ (1000 : Int) < (L : Int) := by omega
  have hbl : Below w1.heap.size w1 (w1.alloc (.cells #[] 47)) := (Below.refl _ _).alloc (Nat.le_refl _) _
  have own0 := own_none2 w1
  have HA2 : Hid (NmAt (w1.alloc (.cells #[] 47)) (.slice a1 L c1) n) := (HN.out.later bel).later hbl
  go_upto_region 5 with (first | (at_builtin; refine wpList_append_pt (by rfl) _ _ (by rfl) w1.heap.size _ 0 [] (by rfl) own0 _ n (by rfl) HA2.out (by rw [HL.out]; omega) (by simp) ?_; intro v1 w2 own1 hgrow1 hat1) | fail)
  have bp1 := below_own (base := w1.heap.size) hbl hgrow1 (by simp) (fun g hg => (own_geK own0 hg).1) (Nat.le_refl _)
  have hB0 := bel.size
  replace bel := below_step bel bp1
  have hB2 := bel.size
  rw [Nat.zero_add, List.nil_append, HL.out] at own1
  have HWr : Hid (WrP w2 v1 L 2 w1.heap.size w2.heap.size) := WrP.of_own own1
  have HO : Hid (NmAt w2 v1 n) := NmAt.of_own own1
  obtain ⟨oa, oc, rfl⟩ := own_sl own1
  obtain ⟨B1, hB1⟩ : ∃ b, b = w1.heap.size := ⟨_, rfl⟩
  obtain ⟨U2, hU2⟩ : ∃ b, b = w2.heap.size := ⟨_, rfl⟩
  rw [← hB1] at HWr hB0
  rw [← hU2] at HWr
  clear hgrow1 hat1 own0 hbl HA2 own1 bp1 hB1 g1
  go_wp2_with fail
  refine (con_NElem HO.out wn).mono ?_
  rintro e w3 ⟨h0, h1⟩
  cases hm : mayN n with
  | false =>
    obtain ⟨rfl, hb3⟩ := h0 hm
    clear h0 h1
    have hs3 : U2 ≤ w3.heap.size := by rw [hU2]; exact hb3.size
    replace bel := below_step bel hb3
    have hz := zero_tlv.out
    have KB := Blk.new w3 [.int .i64 0, .int .i64 0, .bool false, .slice none 0 0, .slice none 0 0] 28 w3.heap.size rfl
    replace bel := below_alloc (o := .cells #[.int .i64 0, .int .i64 0, .bool false, .slice none 0 0, .slice none 0 0] 28) bel
    have st : Below w3.heap.size w3 (w3.alloc (.cells #[.int .i64 0, .int .i64 0, .bool false, .slice none 0 0, .slice none 0 0] 28)) := (Below.refl _ _).alloc (Nat.le_refl _) _
    go_upto_region 6 with (first | (refine wpList_store_row rfl 28 _ _ rfl w3.heap.size #[.int .i64 0, .int .i64 0, .bool false, .slice none 0 0, .slice none 0 0] rfl rfl 28 _ (heap_alloc_last _ _) (by rw [size_tlv]; rfl) rfl (by simp [Value.oneCell']) ?_; rw [World.setRow_alloc_new]) | fail)
    clear hz
    obtain ⟨gl, hgl⟩ : ∃ g, g = w3.heap.size := ⟨_, rfl⟩
    rw [← hgl] at KB
    generalize w3.alloc (.cells #[.int .i64 0, .int .i64 0, .bool false, .slice none 0 0, .slice none 0 0] 28) = V1 at *
    rw [← hgl]
    have hgl9 := hgl
    clear hgl
    have hgl : U2 ≤ gl := by rw [hgl9]; exact hs3
    have hgl3 : w3.heap.size ≤ gl := by rw [hgl9]; exact Nat.le_refl _
    clear hgl9
    have st2 : Below w2.heap.size w2 V1 := hb3.trans (st.mono hb3.size)
    replace HWr : Hid (WrP V1 (.slice oa L oc) L 2 B1 U2) := HWr.out.later st2
    replace HO : Hid (NmAt V1 (.slice oa L oc) n) := HO.out.later st2
    have ag : Agr (fun b => U2 ≤ b) w3 V1 := Agr.below st
    go_wp2_with fail
    refine (con_same16 HO.out (HN.out.later bel) wn wn).mono ?_
    rintro e w4 ⟨rfl, hb⟩
    rw [decide_eq_true rfl]
    replace HWr : Hid (WrP w4 (.slice oa L oc) L 2 B1 U2) := HWr.out.later hb
    replace ag := ag.trans (Agr.below hb)
    replace bel := below_step bel hb
    replace KB := KB.later hb
    clear hb st st2 HO hb3
    go_wp2_with fail
    go_loopw [8] (fun iv wx => ∃ i : Nat, i ≤ L ∧ iv = .int .i64 (i : Int) ∧ WrP wx (.slice oa L oc) L 2 B1 U2 ∧ Blk wx gl [.int .i64 0, .int .i64 0, .bool false, .slice none 0 0, .slice none 0 0] ∧ Below w.heap.size w wx ∧ Agr (fun b => U2 ≤ b) w3 wx) (fun iv _ => L - (intOf iv).toNat)
    case atStart => exact ⟨0, by omega, rfl, HWr.out, KB, bel, ag⟩
    case round =>
      clear HWr KB bel ag
      obtain ⟨i, hi, rfl, hwr, KB, bel, ag⟩ := hrel
      have HWr : Hid (WrP wr (.slice oa L oc) L 2 B1 U2) := hwr
      by_cases hil : i < L
      · have g1 : (i : Int) < (L : Int) := by omega
        have g2 : (0 : Int) ≤ (i : Int) := by omega
        have gi : IntKind.i64.wrap ((i : Int) + 1) = (i : Int) + 1 := by rw [IntKind.wrap_i64]; omega
        obtain h0 | ⟨g, cp, he, hcp, hB, hU, X, BX, lX⟩ := hwr
        · exact absurd hil (by omega)
        simp only [Value.slice.injEq] at he
        obtain ⟨rfl, -, rfl⟩ := he
        have hth : wr.there g (i * 2) 2 := BX.there (by rw [lX]; have := Nat.mul_le_mul_right 2 (show i + 1 ≤ oc by omega); omega)
        obtain ⟨Y, BY, lY⟩ := Blk.cellsS [.int .i64 1, .string { data := #[120] }] (i * 2) wr X BX
        have lg := BX.lt
        go_wp2_with (first | ((with_reducible show wpList _ _ _ ({ dst := _, op := .store _ _ _, type := _, pos := _, after := _, guard := _ } :: _) _ _); refine wpList_store_mid rfl 47 _ _ rfl g (i * 2) #[.int .i64 1, .string { data := #[120] }] rfl rfl hth (by rw [size_pt]; rfl) (by simp [Value.oneCell']) ?_) | fail)
        go_roundw
        case rel => exact ⟨i + 1, by omega, by go_num, .inr ⟨g, _, rfl, hcp, hB, hU, Y, BY, by rw [lY, lX]⟩, KB.cellsO (by omega) [.int .i64 1, .string { data := #[120] }] (i * 2) _, below_cells (by omega) [.int .i64 1, .string { data := #[120] }] (i * 2) _ bel, agr_cells (by omega) [.int .i64 1, .string { data := #[120] }] (i * 2) _ ag⟩
        case measure => simp [intOf]; omega
      · clear hwr
        obtain ⟨w5, hw5⟩ : ∃ z, z = wr := ⟨_, rfl⟩
        subst hw5
        have g1 : ¬ (i : Int) < (L : Int) := by omega
        go_wp2_with fail
        refine (con_NElem (HN.out.later bel) wn).mono ?_
        rintro e w6 ⟨k0, k1⟩
        obtain ⟨rfl, hb⟩ := k0 hm
        clear k0 k1
        replace bel := below_step bel hb
        replace KB := KB.later hb
        clear hb
        replace KB := KB.alloc (.cells #[.int .i64 0, .int .i64 0, .bool false, .slice none 0 0, .slice none 0 0] 28)
        have hz := zero_tlv.out
        have KC := Blk.new w6 [.int .i64 0, .int .i64 0, .bool false, .slice none 0 0, .slice none 0 0] 28 w6.heap.size rfl
        replace bel := below_alloc (o := .cells #[.int .i64 0, .int .i64 0, .bool false, .slice none 0 0, .slice none 0 0] 28) bel
        have st : Below w6.heap.size w6 (w6.alloc (.cells #[.int .i64 0, .int .i64 0, .bool false, .slice none 0 0, .slice none 0 0] 28)) := (Below.refl _ _).alloc (Nat.le_refl _) _
        go_upto_region 12 with (first | (refine wpList_store_row rfl 28 _ _ rfl w6.heap.size #[.int .i64 0, .int .i64 0, .bool false, .slice none 0 0, .slice none 0 0] rfl rfl 28 _ (heap_alloc_last _ _) (by rw [size_tlv]; rfl) rfl (by simp [Value.oneCell']) ?_; rw [World.setRow_alloc_new]) | fail)
        clear hz
        obtain ⟨gu, hgu⟩ : ∃ g, g = w6.heap.size := ⟨_, rfl⟩
        rw [← hgu] at KC
        generalize w6.alloc (.cells #[.int .i64 0, .int .i64 0, .bool false, .slice none 0 0, .slice none 0 0] 28) = V6 at *
        rw [← hgu]
        clear hgu
        obtain ⟨S1, hS1, KB1, KI1, KD1, KL1, KA1⟩ : ∃ S : World → Prop, Hd S V6 ∧ Hid (∀ wx, Hd S wx → Below V6.heap.size V6 wx) ∧ Hid (∀ wx, Below V6.heap.size V6 wx → Hd S wx) ∧ Hid (∀ wx, Hd S wx → Hd S wx.drew) ∧ Hid (∀ w1 w2, Hd S w1 → Below w1.heap.size w1 w2 → Hd S w2) ∧ Hid (∀ w1 o, Hd S w1 → Hd S (w1.alloc o)) := ⟨fun wx => Below V6.heap.size V6 wx, Below.refl _ _, fun _ h => h, fun _ h => h, fun wx h => Below.drew h, fun w1 w2 h hb => below_step h hb, fun w1 o h => Below.alloc h h.size o⟩
        have rt : Hid (∀ wx, Hd S1 wx → (loadVar 28 ⟨gl, 0, none⟩).run Try.prog wx = .ok (.agg #[.int .i64 0, .int .i64 0, .bool false, .slice none 0 0, .slice none 0 0]) wx) := fun wx h => (KB.later (KB1.out wx h)).load Try.underlying28 rfl size_tlv rfl
        have ru : Hid (∀ wx, Hd S1 wx → (loadVar 28 ⟨gu, 0, none⟩).run Try.prog wx = .ok (.agg #[.int .i64 0, .int .i64 0, .bool false, .slice none 0 0, .slice none 0 0]) wx) := fun wx h => (KC.later (KB1.out wx h)).load Try.underlying28 rfl size_tlv rfl
        have q1 := eq_codeN 1
        refine wp_region_noPanic ?_
        refine wp_region_held_drew (S := Hd S1) (by kernel_rfl) (KD1.out _ hS1) (fun hHeld => ?_)
        clear hS1
        generalize World.drew _ = wd at *
        refine wpAnyH_take (i := 0) (v := .agg #[.int .i64 0, .int .i64 0, .bool false, .slice none 0 0, .slice none 0 0]) rfl (by kernel_rfl) (by kernel_rfl) (by kernel_rfl) (fun _ _ _ h => h) (Or.inl ⟨by rfl, fun wx h => exec_load rfl rfl (rt.out wx h)⟩) (by assumption) ?_
        try simp only [Act.put, List.getElem_toArray, List.getElem_cons_zero, List.getElem_cons_succ, List.setIfInBounds_toArray, List.set_cons_zero, List.set_cons_succ]
        refine wpAnyH_take (i := 1) (v := .agg #[.int .i64 0, .int .i64 0, .bool false, .slice none 0 0, .slice none 0 0]) rfl (by kernel_rfl) (by kernel_rfl) (by kernel_rfl) (fun _ _ _ h => h) (Or.inl ⟨by rfl, fun wx h => exec_load rfl rfl (ru.out wx h)⟩) (by assumption) ?_
        try simp only [Act.put, List.getElem_toArray, List.getElem_cons_zero, List.getElem_cons_succ, List.setIfInBounds_toArray, List.set_cons_zero, List.set_cons_succ]
        refine wpAnyH_ready (rs := [2]) (by kernel_rfl) (by simp) ?_
        refine AllReadyH.cons rfl (fun K hK => ?_) ?_
        · go_simp
          refine (r12_Same _ (.mk 0 0 false [] []) (.mk 0 0 false [] []) _ _ _ (Nat.le_refl _) wf_nil0 wf_nil0 (nilT_atN _) (nilT_atN _)).mono ?_
          rintro e z2 ⟨rfl, hb⟩
          rw [sameT_yes rfl]
          refine hK.out _ _ ?_ (fun hHeld2 => ?_)
          · exact KL1.out _ _ hHeld hb
          · clear hK K hHeld
            have hHeld := hHeld2
            clear hHeld2
            try simp only [Act.put, List.getElem_toArray, List.getElem_cons_zero, List.getElem_cons_succ, List.setIfInBounds_toArray, List.set_cons_zero, List.set_cons_succ]
            clear hb
            refine wpAnyH_take (i := 3) (v := ?_) rfl (by kernel_rfl) (by kernel_rfl) (by kernel_rfl) (fun _ _ _ h => h) (Or.inl ⟨by rfl, ?_⟩) (by assumption) ?_
            rotate_left
            · intro w hSw
              go_simp
              with_reducible rfl
            try simp only [Act.put, List.getElem_toArray, List.getElem_cons_zero, List.getElem_cons_succ, List.setIfInBounds_toArray, List.set_cons_zero, List.set_cons_succ]
            refine wpAnyH_take (i := 4) (v := ?_) rfl (by kernel_rfl) (by kernel_rfl) (by kernel_rfl) (fun _ _ _ h => h) (Or.inl ⟨by rfl, ?_⟩) (by assumption) ?_
            rotate_left
            · intro w hSw
              go_simp
              with_reducible rfl
            try simp only [Act.put, List.getElem_toArray, List.getElem_cons_zero, List.getElem_cons_succ, List.setIfInBounds_toArray, List.set_cons_zero, List.set_cons_succ]
            refine wpAnyH_take (i := 5) (v := ?_) rfl (by kernel_rfl) (by kernel_rfl) (by kernel_rfl) (fun _ _ _ h => h) (Or.inl ⟨by rfl, ?_⟩) (by assumption) ?_
            rotate_left
            · intro w hSw
              go_simp
              with_reducible rfl
            try simp only [Act.put, List.getElem_toArray, List.getElem_cons_zero, List.getElem_cons_succ, List.setIfInBounds_toArray, List.set_cons_zero, List.set_cons_succ]
            refine wpAnyH_take (i := 6) (v := ?_) rfl (by kernel_rfl) (by kernel_rfl) (by kernel_rfl) (fun _ _ _ h => h) (Or.inl ⟨by rfl, ?_⟩) (by assumption) ?_
            rotate_left
            · intro w hSw
              go_simp
              with_reducible rfl
            try simp only [Act.put, List.getElem_toArray, List.getElem_cons_zero, List.getElem_cons_succ, List.setIfInBounds_toArray, List.set_cons_zero, List.set_cons_succ]
            refine wpAnyH_take (i := 7) (v := ?_) rfl (by kernel_rfl) (by kernel_rfl) (by kernel_rfl) (fun _ _ _ h => h) (Or.inl ⟨by rfl, ?_⟩) (by assumption) ?_
            rotate_left
            · intro w hSw
              go_simp
              with_reducible rfl
            try simp only [Act.put, List.getElem_toArray, List.getElem_cons_zero, List.getElem_cons_succ, List.setIfInBounds_toArray, List.set_cons_zero, List.set_cons_succ]
            refine wpAnyH_take (i := 8) (v := ?_) rfl (by kernel_rfl) (by kernel_rfl) (by kernel_rfl) (fun _ _ _ h => h) (Or.inl ⟨by rfl, ?_⟩) (by assumption) ?_
            rotate_left
            · intro w hSw
              go_simp
              with_reducible rfl
            try simp only [Act.put, List.getElem_toArray, List.getElem_cons_zero, List.getElem_cons_succ, List.setIfInBounds_toArray, List.set_cons_zero, List.set_cons_succ]
            refine wpAnyH_take (i := 9) (v := ?_) rfl (by kernel_rfl) (by kernel_rfl) (by kernel_rfl) (fun _ _ _ h => h) (Or.inl ⟨by rfl, ?_⟩) (by assumption) ?_
            rotate_left
            · intro w hSw
              go_simp
              with_reducible rfl
            try simp only [Act.put, List.getElem_toArray, List.getElem_cons_zero, List.getElem_cons_succ, List.setIfInBounds_toArray, List.set_cons_zero, List.set_cons_succ]
            refine wpAnyH_take (i := 10) (v := ?_) rfl (by kernel_rfl) (by kernel_rfl) (by kernel_rfl) (fun _ _ _ h => h) (Or.inl ⟨by rfl, ?_⟩) (by assumption) ?_
            rotate_left
            · intro w hSw
              go_simp
              with_reducible rfl
            try simp only [Act.put, List.getElem_toArray, List.getElem_cons_zero, List.getElem_cons_succ, List.setIfInBounds_toArray, List.set_cons_zero, List.set_cons_succ]
            refine wpAnyH_done (by kernel_rfl) ?_ _
            refine NoPanic.normal ?_
            have hb := KB1.out _ hHeld
            replace bel := below_step bel hb
            clear hb hHeld rt ru
            have q2 := ne_codeN 1
            go_wp2_with fail
            go_ret
            exact ⟨rfl, bel⟩
        exact AllReadyH.nil
  | true =>
    obtain ⟨kv, xs, rfl, own, hk, hb3⟩ := h1 hm
    clear h0 h1
    have HT : Hid (Dep (fun b => w2.heap.size ≤ b) w3 (elemN n) [.int .i64 0, .int .i64 16, .bool true, .slice none 0 0, kv]) := ElemR.tl own hk
    rw [← hU2] at HT
    rw [HL.out] at own
    have HWk : Hid (WrP w3 kv L 5 w2.heap.size w3.heap.size) := WrP.of_own own
    obtain ⟨ka, kc, rfl⟩ := own_sl own
    obtain ⟨U3, hU3k⟩ : ∃ b, b = w3.heap.size := ⟨_, rfl⟩
    rw [← hU2, ← hU3k] at HWk
    clear own hk
    have hs3 : U2 ≤ w3.heap.size := by rw [hU2]; exact hb3.size
    have HM : Hid (mayN n = true) := hm
    replace bel := below_step bel hb3
    have hz := zero_tlv.out
    have KB := Blk.new w3 [.int .i64 0, .int .i64 16, .bool true, .slice none 0 0, .slice ka L kc] 28 w3.heap.size rfl
    replace bel := below_alloc (o := .cells #[.int .i64 0, .int .i64 16, .bool true, .slice none 0 0, .slice ka L kc] 28) bel
    have st : Below w3.heap.size w3 (w3.alloc (.cells #[.int .i64 0, .int .i64 16, .bool true, .slice none 0 0, .slice ka L kc] 28)) := (Below.refl _ _).alloc (Nat.le_refl _) _
    go_upto_region 6 with (first | (refine wpList_store_row rfl 28 _ _ rfl w3.heap.size #[.int .i64 0, .int .i64 16, .bool true, .slice none 0 0, .slice ka L kc] rfl rfl 28 _ (heap_alloc_last _ _) (by rw [size_tlv]; rfl) rfl (by simp [Value.oneCell']) ?_; rw [World.setRow_alloc_new]) | fail)
    clear hz
    obtain ⟨gl, hgl⟩ : ∃ g, g = w3.heap.size := ⟨_, rfl⟩
    rw [← hgl] at KB
    generalize w3.alloc (.cells #[.int .i64 0, .int .i64 16, .bool true, .slice none 0 0, .slice ka L kc] 28) = V1 at *
    rw [← hgl]
    have hgl9 := hgl
    clear hgl
    have hgl : U2 ≤ gl := by rw [hgl9]; exact hs3
    have hgl3 : w3.heap.size ≤ gl := by rw [hgl9]; exact Nat.le_refl _
    clear hgl9
    have st2 : Below w2.heap.size w2 V1 := hb3.trans (st.mono hb3.size)
    replace HWr : Hid (WrP V1 (.slice oa L oc) L 2 B1 U2) := HWr.out.later st2
    replace HO : Hid (NmAt V1 (.slice oa L oc) n) := HO.out.later st2
    have ag : Agr (fun b => U2 ≤ b) w3 V1 := Agr.below st
    go_wp2_with fail
    refine (con_same16 HO.out (HN.out.later bel) wn wn).mono ?_
    rintro e w4 ⟨rfl, hb⟩
    rw [decide_eq_true rfl]
    replace HWr : Hid (WrP w4 (.slice oa L oc) L 2 B1 U2) := HWr.out.later hb
    replace ag := ag.trans (Agr.below hb)
    replace bel := below_step bel hb
    replace KB := KB.later hb
    clear hb st st2 HO hb3
    go_wp2_with fail
    go_loopw [8] (fun iv wx => ∃ i : Nat, i ≤ L ∧ iv = .int .i64 (i : Int) ∧ WrP wx (.slice oa L oc) L 2 B1 U2 ∧ Blk wx gl [.int .i64 0, .int .i64 16, .bool true, .slice none 0 0, .slice ka L kc] ∧ Below w.heap.size w wx ∧ Agr (fun b => U2 ≤ b) w3 wx) (fun iv _ => L - (intOf iv).toNat)
    case atStart => exact ⟨0, by omega, rfl, HWr.out, KB, bel, ag⟩
    case round =>
      clear HWr KB bel ag
      obtain ⟨i, hi, rfl, hwr, KB, bel, ag⟩ := hrel
      have HWr : Hid (WrP wr (.slice oa L oc) L 2 B1 U2) := hwr
      by_cases hil : i < L
      · have g1 : (i : Int) < (L : Int) := by omega
        have g2 : (0 : Int) ≤ (i : Int) := by omega
        have gi : IntKind.i64.wrap ((i : Int) + 1) = (i : Int) + 1 := by rw [IntKind.wrap_i64]; omega
        obtain h0 | ⟨g, cp, he, hcp, hB, hU, X, BX, lX⟩ := hwr
        · exact absurd hil (by omega)
        simp only [Value.slice.injEq] at he
        obtain ⟨rfl, -, rfl⟩ := he
        have hth : wr.there g (i * 2) 2 := BX.there (by rw [lX]; have := Nat.mul_le_mul_right 2 (show i + 1 ≤ oc by omega); omega)
        obtain ⟨Y, BY, lY⟩ := Blk.cellsS [.int .i64 1, .string { data := #[120] }] (i * 2) wr X BX
        have lg := BX.lt
        go_wp2_with (first | ((with_reducible show wpList _ _ _ ({ dst := _, op := .store _ _ _, type := _, pos := _, after := _, guard := _ } :: _) _ _); refine wpList_store_mid rfl 47 _ _ rfl g (i * 2) #[.int .i64 1, .string { data := #[120] }] rfl rfl hth (by rw [size_pt]; rfl) (by simp [Value.oneCell']) ?_) | fail)
        go_roundw
        case rel => exact ⟨i + 1, by omega, by go_num, .inr ⟨g, _, rfl, hcp, hB, hU, Y, BY, by rw [lY, lX]⟩, KB.cellsO (by omega) [.int .i64 1, .string { data := #[120] }] (i * 2) _, below_cells (by omega) [.int .i64 1, .string { data := #[120] }] (i * 2) _ bel, agr_cells (by omega) [.int .i64 1, .string { data := #[120] }] (i * 2) _ ag⟩
        case measure => simp [intOf]; omega
      · clear hwr HWr
        obtain ⟨w5, hw5⟩ : ∃ z, z = wr := ⟨_, rfl⟩
        subst hw5
        have g1 : ¬ (i : Int) < (L : Int) := by omega
        replace HT : Hid (Dep (fun b => U2 ≤ b) w5 (elemN n) [.int .i64 0, .int .i64 16, .bool true, .slice none 0 0, .slice ka L kc]) := HT.out.next ag (fun _ h _ => h)
        have hs5 : U3 ≤ w5.heap.size := by rw [hU3k]; exact ag.1
        have HWk5 : Hid (WrP w5 (.slice ka L kc) L 5 U2 U3) := HWk.out.agr ag
        go_wp2_with fail
        refine (con_NElem (HN.out.later bel) wn).mono ?_
        rintro e w6 ⟨k0, k1⟩
        obtain ⟨kv2, xs2, rfl, own2, hk2, hb⟩ := k1 HM.out
        clear k0 k1
        have HT2 : Hid (Dep (fun b => w5.heap.size ≤ b) w6 (elemN n) [.int .i64 0, .int .i64 16, .bool true, .slice none 0 0, kv2]) := ElemR.tl own2 hk2
        rw [HL.out] at own2
        obtain ⟨kb, kd, rfl⟩ := own_sl own2
        replace bel := below_step bel hb
        replace KB := KB.later hb
        have st5 : Below w5.heap.size w5 w6 := hb
        clear own2 hk2 hb
        replace KB := KB.alloc (.cells #[.int .i64 0, .int .i64 16, .bool true, .slice none 0 0, .slice kb L kd] 28)
        have hz := zero_tlv.out
        have KC := Blk.new w6 [.int .i64 0, .int .i64 16, .bool true, .slice none 0 0, .slice kb L kd] 28 w6.heap.size rfl
        replace bel := below_alloc (o := .cells #[.int .i64 0, .int .i64 16, .bool true, .slice none 0 0, .slice kb L kd] 28) bel
        have st : Below w6.heap.size w6 (w6.alloc (.cells #[.int .i64 0, .int .i64 16, .bool true, .slice none 0 0, .slice kb L kd] 28)) := (Below.refl _ _).alloc (Nat.le_refl _) _
        go_upto_region 12 with (first | (refine wpList_store_row rfl 28 _ _ rfl w6.heap.size #[.int .i64 0, .int .i64 16, .bool true, .slice none 0 0, .slice kb L kd] rfl rfl 28 _ (heap_alloc_last _ _) (by rw [size_tlv]; rfl) rfl (by simp [Value.oneCell']) ?_; rw [World.setRow_alloc_new]) | fail)
        clear hz
        obtain ⟨gu, hgu⟩ : ∃ g, g = w6.heap.size := ⟨_, rfl⟩
        rw [← hgu] at KC
        generalize w6.alloc (.cells #[.int .i64 0, .int .i64 16, .bool true, .slice none 0 0, .slice kb L kd] 28) = V6 at *
        rw [← hgu]
        clear hgu
        have st6 : Below w5.heap.size w5 V6 := below_step st5 st
        have HT6 : Hid (TlAt V6 (elemN n) [.int .i64 0, .int .i64 16, .bool true, .slice none 0 0, .slice ka L kc]) := HT.out _ (Agr.below st6)
        have HU6 : Hid (TlAt V6 (elemN n) [.int .i64 0, .int .i64 16, .bool true, .slice none 0 0, .slice kb L kd]) := HT2.out _ (Agr.below st)
        clear st st5 HT2
        obtain ⟨S1, hS1, KB1, KI1, KD1, KL1, KA1⟩ : ∃ S : World → Prop, Hd S V6 ∧ Hid (∀ wx, Hd S wx → Below V6.heap.size V6 wx) ∧ Hid (∀ wx, Below V6.heap.size V6 wx → Hd S wx) ∧ Hid (∀ wx, Hd S wx → Hd S wx.drew) ∧ Hid (∀ w1 w2, Hd S w1 → Below w1.heap.size w1 w2 → Hd S w2) ∧ Hid (∀ w1 o, Hd S w1 → Hd S (w1.alloc o)) := ⟨fun wx => Below V6.heap.size V6 wx, Below.refl _ _, fun _ h => h, fun _ h => h, fun wx h => Below.drew h, fun w1 w2 h hb => below_step h hb, fun w1 o h => Below.alloc h h.size o⟩
        have rt : Hid (∀ wx, Hd S1 wx → (loadVar 28 ⟨gl, 0, none⟩).run Try.prog wx = .ok (.agg #[.int .i64 0, .int .i64 16, .bool true, .slice none 0 0, .slice ka L kc]) wx) := fun wx h => (KB.later (KB1.out wx h)).load Try.underlying28 rfl size_tlv rfl
        have ru : Hid (∀ wx, Hd S1 wx → (loadVar 28 ⟨gu, 0, none⟩).run Try.prog wx = .ok (.agg #[.int .i64 0, .int .i64 16, .bool true, .slice none 0 0, .slice kb L kd]) wx) := fun wx h => (KC.later (KB1.out wx h)).load Try.underlying28 rfl size_tlv rfl
        have q1 := eq_nilN
        refine wp_region_noPanic ?_
        refine wp_region_held_drew (S := Hd S1) (by kernel_rfl) (KD1.out _ hS1) (fun hHeld => ?_)
        clear hS1
        generalize World.drew _ = wd at *
        refine wpAnyH_take (i := 0) (v := .agg #[.int .i64 0, .int .i64 16, .bool true, .slice none 0 0, .slice ka L kc]) rfl (by kernel_rfl) (by kernel_rfl) (by kernel_rfl) (fun _ _ _ h => h) (Or.inl ⟨by rfl, fun wx h => exec_load rfl rfl (rt.out wx h)⟩) (by assumption) ?_
        try simp only [Act.put, List.getElem_toArray, List.getElem_cons_zero, List.getElem_cons_succ, List.setIfInBounds_toArray, List.set_cons_zero, List.set_cons_succ]
        refine wpAnyH_take (i := 1) (v := .agg #[.int .i64 0, .int .i64 16, .bool true, .slice none 0 0, .slice kb L kd]) rfl (by kernel_rfl) (by kernel_rfl) (by kernel_rfl) (fun _ _ _ h => h) (Or.inl ⟨by rfl, fun wx h => exec_load rfl rfl (ru.out wx h)⟩) (by assumption) ?_
        try simp only [Act.put, List.getElem_toArray, List.getElem_cons_zero, List.getElem_cons_succ, List.setIfInBounds_toArray, List.set_cons_zero, List.set_cons_succ]
        refine wpAnyH_ready (rs := [2]) (by kernel_rfl) (by simp) ?_
        refine AllReadyH.cons rfl (fun K hK => ?_) ?_
        · go_simp
          refine (r12_Same _ (elemN n) (elemN n) _ _ _ (Nat.le_refl _) (wf_elem HM.out wn) (wf_elem HM.out wn) (HT6.out.later (KB1.out _ hHeld)) (HU6.out.later (KB1.out _ hHeld))).mono ?_
          rintro e z2 ⟨rfl, hb⟩
          rw [sameT_yes rfl]
          refine hK.out _ _ ?_ (fun hHeld2 => ?_)
          · exact KL1.out _ _ hHeld hb
          · clear hK K hHeld
            have hHeld := hHeld2
            clear hHeld2
            try simp only [Act.put, List.getElem_toArray, List.getElem_cons_zero, List.getElem_cons_succ, List.setIfInBounds_toArray, List.set_cons_zero, List.set_cons_succ]
            clear hb
            refine wpAnyH_take (i := 3) (v := ?_) rfl (by kernel_rfl) (by kernel_rfl) (by kernel_rfl) (fun _ _ _ h => h) (Or.inl ⟨by rfl, ?_⟩) (by assumption) ?_
            rotate_left
            · intro w hSw
              go_simp
              with_reducible rfl
            try simp only [Act.put, List.getElem_toArray, List.getElem_cons_zero, List.getElem_cons_succ, List.setIfInBounds_toArray, List.set_cons_zero, List.set_cons_succ]
            refine wpAnyH_take (i := 4) (v := ?_) rfl (by kernel_rfl) (by kernel_rfl) (by kernel_rfl) (fun _ _ _ h => h) (Or.inl ⟨by rfl, ?_⟩) (by assumption) ?_
            rotate_left
            · intro w hSw
              go_simp
              with_reducible rfl
            try simp only [Act.put, List.getElem_toArray, List.getElem_cons_zero, List.getElem_cons_succ, List.setIfInBounds_toArray, List.set_cons_zero, List.set_cons_succ]
            refine wpAnyH_take (i := 5) (v := ?_) rfl (by kernel_rfl) (by kernel_rfl) (by kernel_rfl) (fun _ _ _ h => h) (Or.inl ⟨by rfl, ?_⟩) (by assumption) ?_
            rotate_left
            · intro w hSw
              go_simp
              with_reducible rfl
            try simp only [Act.put, List.getElem_toArray, List.getElem_cons_zero, List.getElem_cons_succ, List.setIfInBounds_toArray, List.set_cons_zero, List.set_cons_succ]
            refine wpAnyH_take (i := 6) (v := ?_) rfl (by kernel_rfl) (by kernel_rfl) (by kernel_rfl) (fun _ _ _ h => h) (Or.inl ⟨by rfl, ?_⟩) (by assumption) ?_
            rotate_left
            · intro w hSw
              go_simp
              with_reducible rfl
            try simp only [Act.put, List.getElem_toArray, List.getElem_cons_zero, List.getElem_cons_succ, List.setIfInBounds_toArray, List.set_cons_zero, List.set_cons_succ]
            refine wpAnyH_take (i := 7) (v := ?_) rfl (by kernel_rfl) (by kernel_rfl) (by kernel_rfl) (fun _ _ _ h => h) (Or.inl ⟨by rfl, ?_⟩) (by assumption) ?_
            rotate_left
            · intro w hSw
              go_simp
              with_reducible rfl
            try simp only [Act.put, List.getElem_toArray, List.getElem_cons_zero, List.getElem_cons_succ, List.setIfInBounds_toArray, List.set_cons_zero, List.set_cons_succ]
            refine wpAnyH_take (i := 8) (v := ?_) rfl (by kernel_rfl) (by kernel_rfl) (by kernel_rfl) (fun _ _ _ h => h) (Or.inl ⟨by rfl, ?_⟩) (by assumption) ?_
            rotate_left
            · intro w hSw
              go_simp
              with_reducible rfl
            try simp only [Act.put, List.getElem_toArray, List.getElem_cons_zero, List.getElem_cons_succ, List.setIfInBounds_toArray, List.set_cons_zero, List.set_cons_succ]
            refine wpAnyH_take (i := 9) (v := ?_) rfl (by kernel_rfl) (by kernel_rfl) (by kernel_rfl) (fun _ _ _ h => h) (Or.inl ⟨by rfl, ?_⟩) (by assumption) ?_
            rotate_left
            · intro w hSw
              go_simp
              with_reducible rfl
            try simp only [Act.put, List.getElem_toArray, List.getElem_cons_zero, List.getElem_cons_succ, List.setIfInBounds_toArray, List.set_cons_zero, List.set_cons_succ]
            refine wpAnyH_take (i := 10) (v := ?_) rfl (by kernel_rfl) (by kernel_rfl) (by kernel_rfl) (fun _ _ _ h => h) (Or.inl ⟨by rfl, ?_⟩) (by assumption) ?_
            rotate_left
            · intro w hSw
              go_simp
              with_reducible rfl
            try simp only [Act.put, List.getElem_toArray, List.getElem_cons_zero, List.getElem_cons_succ, List.setIfInBounds_toArray, List.set_cons_zero, List.set_cons_succ]
            refine wpAnyH_done (by kernel_rfl) ?_ _
            refine NoPanic.normal ?_
            have hb := KB1.out _ hHeld
            replace bel := below_step bel hb
            replace st6 := below_step st6 hb
            replace KB := KB.later hb
            replace KC := KC.later hb
            replace HT6 : Hid (TlAt z2 (elemN n) [.int .i64 0, .int .i64 16, .bool true, .slice none 0 0, .slice ka L kc]) := HT6.out.later hb
            replace HU6 : Hid (TlAt z2 (elemN n) [.int .i64 0, .int .i64 16, .bool true, .slice none 0 0, .slice kb L kd]) := HU6.out.later hb
            clear hb hHeld rt ru
            have q2 := ne_nilN
            have lk := KB.lt
            have lc := KC.lt
            have hLL : (loadVar 28 ⟨gl, 0, none⟩).run Try.prog z2 = .ok (.agg #[.int .i64 0, .int .i64 16, .bool true, .slice none 0 0, .slice ka L kc]) z2 := KB.load Try.underlying28 rfl size_tlv rfl
            go_wp2_with (first | ((with_reducible show wpList _ _ _ ({ dst := _, op := .load _ _, type := _, pos := _, after := _, guard := _ } :: _) _ _); first | (refine wpList_load_run (by rfl) (by rfl) (by rfl) hLL ?_)) | fail)
            refine (con_NOf HT6.out (wf_elem HM.out wn) (by have := (may_say HM.out).1; rw [sz_elem]; omega)).mono ?_
            rintro e w9 ⟨⟨v9, er9, -, hb⟩, h9⟩
            obtain ⟨mv, rfl, hnew⟩ := (h9 (wr_elem HM.out)).1 n (read_elem HM.out)
            clear h9 hLL q2
            have HNw : Hid (NmNew z2 w9 mv n) := hnew
            obtain ⟨ma, mc, hmv, -, -, -⟩ := hnew _ (Agr.refl _ _)
            rw [HL.out] at hmv
            subst hmv
            have hs9 : U3 ≤ z2.heap.size := Nat.le_trans hs5 st6.size
            replace bel := below_step bel hb
            replace st6 := below_step st6 hb
            replace KB := KB.later hb
            replace KC := KC.later hb
            replace HT6 : Hid (TlAt w9 (elemN n) [.int .i64 0, .int .i64 16, .bool true, .slice none 0 0, .slice ka L kc]) := HT6.out.later hb
            replace HU6 : Hid (TlAt w9 (elemN n) [.int .i64 0, .int .i64 16, .bool true, .slice none 0 0, .slice kb L kd]) := HU6.out.later hb
            clear hb hnew lk lc
            have lk := KB.lt
            have lc := KC.lt
            have hLL : (loadVar 28 ⟨gl, 0, none⟩).run Try.prog w9 = .ok (.agg #[.int .i64 0, .int .i64 16, .bool true, .slice none 0 0, .slice ka L kc]) w9 := KB.load Try.underlying28 rfl size_tlv rfl
            have hLC : (loadVar 28 ⟨gu, 0, none⟩).run Try.prog w9 = .ok (.agg #[.int .i64 0, .int .i64 16, .bool true, .slice none 0 0, .slice kb L kd]) w9 := KC.load Try.underlying28 rfl size_tlv rfl
            go_wp2_with (first | ((with_reducible show wpList _ _ _ ({ dst := _, op := .load _ _, type := _, pos := _, after := _, guard := _ } :: _) _ _); first | (refine wpList_load_run (by rfl) (by rfl) (by rfl) hLL ?_) | (refine wpList_load_run (by rfl) (by rfl) (by rfl) hLC ?_)) | fail)
            refine (r12_Same _ (elemN n) (elemN n) _ _ _ (Nat.le_refl _) (wf_elem HM.out wn) (wf_elem HM.out wn) HT6.out HU6.out).mono ?_
            rintro e w10 ⟨rfl, hb⟩
            rw [sameT_yes rfl]
            replace bel := below_step bel hb
            replace st6 := below_step st6 hb
            replace KB := KB.later hb
            have ag2 : Agr (fun b => z2.heap.size ≤ b) w9 w10 := Agr.below hb
            have HWr : Hid (WrP w10 (.slice ka L kc) L 5 U2 U3) := HWk5.out.later st6
            clear hb hLL hLC lk lc KC HT6 HU6 HT ag st6 HWk HWk5
            have hglu : U3 ≤ gl := by rw [hU3k]; exact hgl3
            go_wp2_with fail
            go_loopw [15] (fun iv wx => ∃ i : Nat, i ≤ L ∧ iv = .int .i64 (i : Int) ∧ WrP wx (.slice ka L kc) L 5 U2 U3 ∧ Blk wx gl [.int .i64 0, .int .i64 16, .bool true, .slice none 0 0, .slice ka L kc] ∧ Below w.heap.size w wx ∧ Agr (fun b => z2.heap.size ≤ b) w9 wx) (fun iv _ => L - (intOf iv).toNat)
            case atStart => exact ⟨0, by omega, rfl, HWr.out, KB, bel, ag2⟩
            case round =>
              clear hi hil g1
              clear HWr KB bel ag2
              obtain ⟨i, hi, rfl, hwr, KB, bel, ag2⟩ := hrel
              have HWr : Hid (WrP wr (.slice ka L kc) L 5 U2 U3) := hwr
              by_cases hil : i < L
              · have g1 : (i : Int) < (L : Int) := by omega
                have g2 : (0 : Int) ≤ (i : Int) := by omega
                have gi : IntKind.i64.wrap ((i : Int) + 1) = (i : Int) + 1 := by rw [IntKind.wrap_i64]; omega
                obtain h0 | ⟨g, cp, he, hcp, hB, hU, X, BX, lX⟩ := hwr
                · exact absurd hil (by omega)
                simp only [Value.slice.injEq] at he
                obtain ⟨rfl, -, rfl⟩ := he
                have hth : wr.there g (i * 5) 5 := BX.there (by rw [lX]; have := Nat.mul_le_mul_right 5 (show i + 1 ≤ kc by omega); omega)
                obtain ⟨Y, BY, lY⟩ := Blk.cellsS [.int .i64 0, .int .i64 0, .bool false, .slice none 0 0, .slice none 0 0] (i * 5) wr X BX
                have lg := BX.lt
                have f4 := KB.cell 4 _ rfl
                have lk := KB.lt
                have hz := zero_tlv.out
                go_wp2_with (first | ((with_reducible show wpList _ _ _ ({ dst := _, op := .store _ _ _, type := _, pos := _, after := _, guard := _ } :: _) _ _); refine wpList_store_mid rfl 28 _ _ rfl g (i * 5) #[.int .i64 0, .int .i64 0, .bool false, .slice none 0 0, .slice none 0 0] rfl rfl hth (by rw [size_tlv]; rfl) (by simp [Value.oneCell']) ?_) | fail)
                go_roundw
                case rel => exact ⟨i + 1, by omega, by go_num, .inr ⟨g, _, rfl, hcp, hB, hU, Y, BY, by rw [lY, lX]⟩, KB.cellsO (by omega) [.int .i64 0, .int .i64 0, .bool false, .slice none 0 0, .slice none 0 0] (i * 5) _, below_cells (by omega) [.int .i64 0, .int .i64 0, .bool false, .slice none 0 0, .slice none 0 0] (i * 5) _ bel, agr_cells (by omega) [.int .i64 0, .int .i64 0, .bool false, .slice none 0 0, .slice none 0 0] (i * 5) _ ag2⟩
                case measure => simp [intOf]; omega
              · have f4 := KB.cell 4 _ rfl
                have lk := KB.lt
                clear hwr HWr
                obtain ⟨w11, hw11⟩ : ∃ z, z = wr := ⟨_, rfl⟩
                subst hw11
                have g1 : ¬ (i : Int) < (L : Int) := by omega
                have q5 := eq_nilN
                go_wp2_with fail
                refine (con_same16 (HNw.out _ ag2) (HN.out.later bel) wn wn).mono ?_
                rintro e w12 ⟨rfl, hb⟩
                rw [decide_eq_true rfl]
                replace bel := below_step bel hb
                go_wp2_with fail
                go_ret
                exact ⟨rfl, bel⟩
        exact AllReadyH.nil
end Go.Proofs.Ytineihnipidmfaa
