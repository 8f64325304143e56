/- The law NameElements. -/
import Derived.Test.YtineihnipidmfaaRows
import Derived.Test.YtineihnipidmfaaNmUp
import Derived.Test.YtineihnipidmfaaNmSame
import Derived.Test.YtineihnipidmfaaNmMay
import Derived.Test.YtineihnipidmfaaNmElem
import Derived.Test.YtineihnipidmfaaNmFact
import Derived.Test.YtineihnipidmfaaNlElem
import Derived.Test.YtineihnipidmfaaNlPG
import Derived.Test.YtineihnipidmfaaDrSame
import Derived.Test.YtineihnipidmfaaNmErr
import Derived.Deep.OwnRows
import Derived.Deep.AppendLies
import Derived.Great.BuildSlice
import Derived.Laws.Rows
import Derived.BigQuiet
import Derived.Deep.WholeRow
import Derived.Deep.RegionHeld3
import Derived.Deep.DeepCutAuto
import Derived.Deep.DeepFit
namespace Go.Proofs.Ytineihnipidmfaa
open Go.RowKit

set_option linter.unusedSimpArgs false in
set_option maxRecDepth 100000 in
set_option maxHeartbeats 2000000 in
theorem law_nameElements {v : Value} {n : List Pn} {w : World} (hn : NmAt w v n) (wn : WfN n) :
    Calls Try.prog 3 #[v] w fun e w' => e = .returned (.bool true) ∧ Below w.heap.size w w' := by
  have HN : Hid (NmAt w v n) := hn
  obtain ⟨a1, c1, rfl, -, -, -⟩ := hn
  obtain ⟨L, hL⟩ : ∃ L, n.length = L := ⟨_, rfl⟩
  have HL : Hid (n.length = L) := hL
  rw [hL] at HN ⊢
  clear hL
  go_enter Try.func3, Try.ntmps3
  go_wp2_with fail
  refine con_up16.mono ?_
  rintro e w1 ⟨rfl, bel⟩
  by_cases hl : 1000 < L
  · have g1 : (1000 : Int) < (L : Int) := by omega
    go_wp2_with fail
    go_ret
    exact ⟨rfl, bel⟩
  have g1 : ¬ (1000 : Int) < (L : Int) := by omega
  clear hl
  go_wp2_with fail
  refine (con_NElem (HN.out.later bel) wn).mono ?_
  rintro e w2 ⟨h0, h1⟩
  cases hm : mayN n with
  | false =>
    obtain ⟨rfl, hb⟩ := h0 hm
    clear h0 h1
    replace bel := below_step bel hb
    clear hb
    have hz := zero_tlv.out
    have KB := Blk.new w2 [.int .i64 0, .int .i64 0, .bool false, .slice none 0 0, .slice none 0 0] 28 w2.heap.size rfl
    replace bel := below_alloc (o := .cells #[.int .i64 0, .int .i64 0, .bool false, .slice none 0 0, .slice none 0 0] 28) bel
    have st : Below w2.heap.size w2 (w2.alloc (.cells #[.int .i64 0, .int .i64 0, .bool false, .slice none 0 0, .slice none 0 0] 28)) := (Below.refl _ _).alloc (Nat.le_refl _) _
    go_upto_region 5 with (first | (refine wpList_store_row rfl 28 _ _ rfl w2.heap.size #[.int .i64 0, .int .i64 0, .bool false, .slice none 0 0, .slice none 0 0] rfl rfl 28 _ (heap_alloc_last _ _) (by rw [size_tlv]; rfl) rfl (by simp [Value.oneCell']) ?_; rw [World.setRow_alloc_new]) | fail)
    clear hz
    obtain ⟨gl, hgl⟩ : ∃ g, g = w2.heap.size := ⟨_, rfl⟩
    rw [← hgl] at KB
    generalize w2.alloc (.cells #[.int .i64 0, .int .i64 0, .bool false, .slice none 0 0, .slice none 0 0] 28) = V1 at *
    rw [← hgl]
    clear hgl
    go_wp2_with fail
    refine (con_may16 (HN.out.later bel) wn).mono ?_
    rintro e w3 ⟨rfl, hb⟩
    rw [hm]
    replace bel := below_step bel hb
    replace st := below_step st hb
    replace KB := KB.later hb
    clear hb
    have hLL : (loadVar 28 ⟨gl, 0, none⟩).run Try.prog w3 = .ok (.agg #[.int .i64 0, .int .i64 0, .bool false, .slice none 0 0, .slice none 0 0]) w3 := KB.load Try.underlying28 rfl size_tlv rfl
    have lk := KB.lt
    have hz := zero_tlv.out
    have q1 := iface_eqN 1
    go_wp2_with (first | (refine wpList_load_run (by rfl) (by rfl) (by rfl) hLL ?_) | fail)
    refine (r12_Same _ (.mk 0 0 false [] []) (.mk 0 0 false [] []) _ _ _ (Nat.le_refl _) wf_nil0 wf_nil0 (nilT_atN _) (nilT_atN _)).mono ?_
    rintro e w4 ⟨rfl, hb⟩
    rw [sameT_yes rfl]
    replace bel := below_step bel hb
    go_wp2_with fail
    go_ret
    exact ⟨rfl, bel⟩
  | true =>
    obtain ⟨kv, xs, rfl, own, hk, hb⟩ := h1 hm
    clear h0 h1
    have HT : Hid (Dep (fun b => w1.heap.size ≤ b) w2 (elemN n) [.int .i64 0, .int .i64 16, .bool true, .slice none 0 0, kv]) := ElemR.tl own hk
    obtain ⟨ka, kc, rfl⟩ : ∃ ka kc, kv = .slice ka L kc := by rw [HL.out] at own; rcases own.2 with ⟨h, h'⟩ | ⟨_, _, _, h, _⟩; exact ⟨none, 0, by rw [h, h']⟩; exact ⟨_, _, h⟩
    clear own hk
    replace bel := below_step bel hb
    clear hb
    have HM : Hid (mayN n = true) := hm
    have hz := zero_tlv.out
    have KB := Blk.new w2 [.int .i64 0, .int .i64 16, .bool true, .slice none 0 0, .slice ka L kc] 28 w2.heap.size rfl
    replace bel := below_alloc (o := .cells #[.int .i64 0, .int .i64 16, .bool true, .slice none 0 0, .slice ka L kc] 28) bel
    have st : Below w2.heap.size w2 (w2.alloc (.cells #[.int .i64 0, .int .i64 16, .bool true, .slice none 0 0, .slice ka L kc] 28)) := (Below.refl _ _).alloc (Nat.le_refl _) _
    go_upto_region 5 with (first | (refine wpList_store_row rfl 28 _ _ rfl w2.heap.size #[.int .i64 0, .int .i64 16, .bool true, .slice none 0 0, .slice ka L kc] rfl rfl 28 _ (heap_alloc_last _ _) (by rw [size_tlv]; rfl) rfl (by simp [Value.oneCell']) ?_; rw [World.setRow_alloc_new]) | fail)
    clear hz
    obtain ⟨gl, hgl⟩ : ∃ g, g = w2.heap.size := ⟨_, rfl⟩
    rw [← hgl] at KB
    generalize w2.alloc (.cells #[.int .i64 0, .int .i64 16, .bool true, .slice none 0 0, .slice ka L kc] 28) = V1 at *
    rw [← hgl]
    clear hgl
    go_wp2_with fail
    refine (con_may16 (HN.out.later bel) wn).mono ?_
    rintro e w3 ⟨rfl, hb⟩
    rw [hm]
    replace bel := below_step bel hb
    replace st := below_step st hb
    replace KB := KB.later hb
    clear hb
    have hLL : (loadVar 28 ⟨gl, 0, none⟩).run Try.prog w3 = .ok (.agg #[.int .i64 0, .int .i64 16, .bool true, .slice none 0 0, .slice ka L kc]) w3 := KB.load Try.underlying28 rfl size_tlv rfl
    have lk := KB.lt
    clear hm lk hLL
    go_upto_region 8 with fail
    obtain ⟨S1, hS1, KB1, KI1, KD1, KL1, KA1⟩ : ∃ S : World → Prop, Hd S w3 ∧ Hid (∀ wx, Hd S wx → Below w3.heap.size w3 wx) ∧ Hid (∀ wx, Below w3.heap.size w3 wx → Hd S wx) ∧ Hid (∀ wx, Hd S wx → Hd S wx.drew) ∧ Hid (∀ w1 w2, Hd S w1 → Below w1.heap.size w1 w2 → Hd S w2) ∧ Hid (∀ w1 o, Hd S w1 → Hd S (w1.alloc o)) := ⟨fun wx => Below w3.heap.size w3 wx, Below.refl _ _, fun _ h => h, fun _ h => h, fun wx h => Below.drew h, fun w1 w2 h hb => below_step h hb, fun w1 o h => Below.alloc h h.size o⟩
    have rr : Hid (∀ wx, Hd S1 wx → (loadVar 28 ⟨gl, 0, none⟩).run Try.prog wx = .ok (.agg #[.int .i64 0, .int .i64 16, .bool true, .slice none 0 0, .slice ka L kc]) wx) := fun wx h => (KB.later (KB1.out wx h)).load Try.underlying28 rfl size_tlv rfl
    refine wp_region_noPanic ?_
    refine wp_region_held_drew (S := Hd S1) (by kernel_rfl) (KD1.out _ hS1) (fun hHeld => ?_)
    clear hS1
    generalize World.drew _ = wd at *
    refine wpAnyH_take (i := 0) (v := .agg #[.int .i64 0, .int .i64 16, .bool true, .slice none 0 0, .slice ka L kc]) rfl (by kernel_rfl) (by kernel_rfl) (by kernel_rfl) (fun _ _ _ h => h) (Or.inl ⟨by rfl, fun wx h => exec_load rfl rfl (rr.out wx h)⟩) (by assumption) ?_
    try simp only [Act.put, List.getElem_toArray, List.getElem_cons_zero, List.getElem_cons_succ, List.setIfInBounds_toArray, List.set_cons_zero, List.set_cons_succ]
    refine wpAnyH_take (i := 1) (v := ?_) rfl (by kernel_rfl) (by kernel_rfl) (by kernel_rfl) (fun _ _ _ h => h) (Or.inl ⟨by rfl, ?_⟩) (by assumption) ?_
    rotate_left
    · intro w hSw
      go_simp
      with_reducible rfl
    try simp only [Act.put, List.getElem_toArray, List.getElem_cons_zero, List.getElem_cons_succ, List.setIfInBounds_toArray, List.set_cons_zero, List.set_cons_succ]
    refine wpAnyH_ready (rs := [2]) (by kernel_rfl) (by simp) ?_
    refine AllReadyH.cons rfl (fun K hK => ?_) ?_
    · have HH2 : Hid (Hd S1 wd) := hHeld
      go_simp
      refine (con_element16 (HN.out.later (below_step bel (KB1.out _ hHeld))) wn HM.out).mono ?_
      rintro e z2 ⟨kv2, xs2, rfl, own2, hk2, hb⟩
      refine hK.out _ _ ?_ (fun hHeld2 => ?_)
      · exact KL1.out _ _ hHeld hb
      · clear hK K hHeld
        have hHeld := hHeld2
        clear hHeld2
        try simp only [Act.put, List.getElem_toArray, List.getElem_cons_zero, List.getElem_cons_succ, List.setIfInBounds_toArray, List.set_cons_zero, List.set_cons_succ]
        have HT2 : Hid (Dep (fun b => wd.heap.size ≤ b) z2 (elemN n) [.int .i64 0, .int .i64 16, .bool true, .slice none 0 0, kv2]) := ElemR.tl own2 hk2
        clear own2 hk2 hb HH2
        refine wpAnyH_ready (rs := [3]) (by kernel_rfl) (by simp) ?_
        refine AllReadyH.cons rfl (fun K hK => ?_) ?_
        · go_simp
          refine (r12_Same _ (elemN n) (elemN n) _ _ _ (Nat.le_refl _) (wf_elem HM.out wn) (wf_elem HM.out wn) (HT.out _ (Agr.below (below_step st (KB1.out _ hHeld)))) HT2.out.now).mono ?_
          rintro e z3 ⟨rfl, hb⟩
          rw [sameT_yes rfl]
          refine hK.out _ _ ?_ (fun hHeld2 => ?_)
          · exact KL1.out _ _ hHeld hb
          · clear hK K hHeld
            have hHeld := hHeld2
            clear hHeld2
            try simp only [Act.put, List.getElem_toArray, List.getElem_cons_zero, List.getElem_cons_succ, List.setIfInBounds_toArray, List.set_cons_zero, List.set_cons_succ]
            clear hb HT2
            refine wpAnyH_take (i := 4) (v := ?_) rfl (by kernel_rfl) (by kernel_rfl) (by kernel_rfl) (fun _ _ _ h => h) (Or.inl ⟨by rfl, ?_⟩) (by assumption) ?_
            rotate_left
            · intro w hSw
              go_simp
              with_reducible rfl
            try simp only [Act.put, List.getElem_toArray, List.getElem_cons_zero, List.getElem_cons_succ, List.setIfInBounds_toArray, List.set_cons_zero, List.set_cons_succ]
            refine wpAnyH_done (by kernel_rfl) ?_ _
            refine NoPanic.normal ?_
            have hb := KB1.out _ hHeld
            replace bel := below_step bel hb
            replace st := below_step st hb
            replace KB := KB.later hb
            clear hb hHeld rr
            have hLL : (loadVar 28 ⟨gl, 0, none⟩).run Try.prog z3 = .ok (.agg #[.int .i64 0, .int .i64 16, .bool true, .slice none 0 0, .slice ka L kc]) z3 := KB.load Try.underlying28 rfl size_tlv rfl
            have lk := KB.lt
            go_wp2_with (first | (refine wpList_load_run (by rfl) (by rfl) (by rfl) hLL ?_) | fail)
            refine (con_NOf (HT.out _ (Agr.below st)) (wf_elem HM.out wn) (by have := (may_say HM.out).1; rw [sz_elem]; omega)).mono ?_
            rintro e w9 ⟨⟨v9, er9, -, hb⟩, h9⟩
            obtain ⟨mv, rfl, hnew⟩ := (h9 (wr_elem HM.out)).1 n (read_elem HM.out)
            clear h9 hLL lk
            replace bel := below_step bel hb
            clear hb
            have HW : Hid (NmAt w9 mv n) := hnew _ (Agr.refl _ _)
            clear hnew
            obtain ⟨ma, mc, hmv, -, -, -⟩ := id HW.out
            rw [HL.out] at hmv
            subst hmv
            have q5 := eq_nilN
            go_wp2_with fail
            refine (con_same16 HW.out (HN.out.later bel) wn wn).mono ?_
            rintro e w10 ⟨rfl, hb⟩
            rw [decide_eq_true rfl]
            replace bel := below_step bel hb
            go_wp2_with fail
            go_ret
            exact ⟨rfl, bel⟩
        exact AllReadyH.nil
    exact AllReadyH.nil
end Go.Proofs.Ytineihnipidmfaa
