/- The law NameOf. -/
import Derived.Test.YtineihnipidmfaaRows
import Derived.Test.YtineihnipidmfaaNmUp
import Derived.Test.YtineihnipidmfaaNmSame
import Derived.Test.YtineihnipidmfaaNmBack
import Derived.Test.YtineihnipidmfaaNmRead
import Derived.Test.YtineihnipidmfaaNmFact
import Derived.Test.YtineihnipidmfaaNlElem
import Derived.Test.YtineihnipidmfaaNlPG
import Derived.Test.YtineihnipidmfaaDrSame
import Derived.Test.YtineihnipidmfaaDrWrite
import Derived.Test.YtineihnipidmfaaDrLight
import Derived.Test.YtineihnipidmfaaDrSmN
import Derived.Test.YtineihnipidmfaaNmErr
import Derived.Deep.OwnRows
import Derived.Deep.AppendLies
import Derived.Great.BuildSlice
import Derived.Laws.Rows
import Derived.BigQuiet
import Derived.Deep.WholeRow
import Derived.Deep.RegionHeld3
import Derived.Deep.DeepCutAuto
import Derived.Deep.DeepFit
namespace Go.Proofs.Ytineihnipidmfaa
open Go.RowKit

set_option linter.unusedSimpArgs false in
set_option maxRecDepth 100000 in
set_option maxHeartbeats 4000000 in
theorem law_nameOf {T : Tl} {cs : List Value} {w : World} (h : TlAt w T cs) (hw : WfT T) :
    Calls Try.prog 4 #[.agg cs.toArray] w fun e w' => e = .returned (.bool true) ∧ Below w.heap.size w w' := by
  have HW : Hid (WfT T) := hw
  have HL : Hid (cs.length = 5) := h.five
  have HT : Hid (TlAt w T cs) := h
  have B0 := Blk.new w cs 28 w.heap.size rfl
  have bel : Below w.heap.size w (w.alloc (.cells cs.toArray 28)) := (Below.refl _ _).alloc (Nat.le_refl _) _
  clear h hw
  go_enter Try.func4, Try.ntmps4
  go_upto_region 1 with fail
  generalize w.alloc (.cells cs.toArray 28) = W at *
  go_wp2_with fail
  refine con_up16.mono ?_
  rintro e w1 ⟨rfl, hb⟩
  replace bel := below_step bel hb
  replace B0 := B0.later hb
  clear hb
  have l0 := B0.lt
  go_wp2_with (first | (refine wpList_load_run (by rfl) (by rfl) (by rfl) (B0.load Try.underlying28 rfl size_tlv HL.out) ?_) | fail)
  refine (r12_Light _ T 20000 50 _ _ (Nat.le_refl _) (by omega) (by omega) (HT.out.later bel)).mono ?_
  rintro e w2 ⟨rfl, hb⟩
  replace bel := below_step bel hb
  replace B0 := B0.later hb
  clear hb l0
  obtain ⟨lt, hlt⟩ : ∃ l, litT T 20000 50 = l := ⟨_, rfl⟩
  have hln : 0 ≤ lt → szT T ≤ 20000 ∧ (bytesT T).length ≤ 100000 := fun h => by
    have := litT_len T 20000 50 (by rw [hlt]; exact h)
    rw [hlt] at this
    omega
  rw [hlt]
  clear hlt
  by_cases c1 : lt < 0
  · clear hln B0
    go_wp2_with fail
    go_ret
    exact ⟨rfl, bel⟩
  obtain ⟨z1, z2⟩ := hln (by omega)
  have HZ1 : Hid (szT T ≤ 20000) := z1
  have HZ2 : Hid ((bytesT T).length ≤ 100000) := z2
  clear hln z1 z2
  have l0 := B0.lt
  go_wp2_with (first | (refine wpList_load_run (by rfl) (by rfl) (by rfl) (B0.load Try.underlying28 rfl size_tlv HL.out) ?_) | fail)
  refine (con_NOf (HT.out.later bel) HW.out (by have := HZ1.out; omega)).mono ?_
  rintro e w3 ⟨⟨nv, er, rfl, hb⟩, hof⟩
  have HOf : Hid _ := hof
  replace bel := below_step bel hb
  replace B0 := B0.later hb
  have st : Below w3.heap.size w3 w3 := Below.refl _ _
  clear hb l0 hof c1
  have l0 := B0.lt
  go_wp2_with (first | (refine wpList_load_run (by rfl) (by rfl) (by rfl) (B0.load Try.underlying28 rfl size_tlv HL.out) ?_) | fail)
  refine (r12_Write (by have := HZ1.out; omega) (fun _ => by have := HZ2.out; omega) (HT.out.later bel)).mono ?_
  rintro e w4 ⟨bv, rfl, -, -, hb⟩
  replace bel := below_step bel hb
  replace st := below_step st hb
  replace B0 := B0.later hb
  clear hb l0
  obtain ⟨wn, hwn⟩ : ∃ x, wrN T = x := ⟨_, rfl⟩
  rw [hwn]
  by_cases c2 : wn = 0
  rotate_left
  · have d1 : ((wn : Int) == 0) = false := by rw [beq_eq_false_iff_ne]; omega
    have d2 : ((wn : Int) != 0) = true := by rw [bne, d1]; rfl
    clear hwn c2 B0 HOf st
    go_wp2_with fail
    go_ret
    exact ⟨rfl, bel⟩
  subst c2
  have HO2 : Hid _ := HOf.out hwn
  have HFi : Hid (fineT T = true) := wr_fineN hwn
  clear HOf hwn
  have l0 := B0.lt
  go_wp2_with (first | (refine wpList_load_run (by rfl) (by rfl) (by rfl) (B0.load Try.underlying28 rfl size_tlv HL.out) ?_) | fail)
  refine (con_read16 (HT.out.later bel) HW.out (by have := HZ1.out; omega)).mono ?_
  rintro e w5 ⟨hok, hbad, hb⟩
  replace bel := below_step bel hb
  replace st := below_step st hb
  replace B0 := B0.later hb
  clear hb l0
  cases hr : readN T with
  | error c =>
    obtain rfl := hbad c hr
    obtain ⟨ao, cp, he⟩ := HO2.out.2 c hr
    simp only [Ending.returned.injEq, Value.tuple.injEq, Array.mk.injEq, List.cons.injEq, and_true] at he
    obtain ⟨rfl, rfl⟩ := he
    have q7 := iface_eqN 7
    have q2 := iface_eqN 2
    have hc := readN_err hr
    clear hok hbad hr HO2 HFi B0 st
    rcases hc with rfl | rfl
    · go_wp2_with fail
      go_ret
      exact ⟨rfl, bel⟩
    · go_wp2_with fail
      go_ret
      exact ⟨rfl, bel⟩
  | ok n =>
    obtain ⟨v5, rfl, hnew5⟩ := hok n hr
    obtain ⟨v3, he, hnew3⟩ := HO2.out.1 n hr
    simp only [Ending.returned.injEq, Value.tuple.injEq, Array.mk.injEq, List.cons.injEq, and_true] at he
    obtain ⟨rfl, rfl⟩ := he
    obtain ⟨hTe, hmay⟩ := read_back hr HFi.out
    have HTe : Hid (T = elemN n) := hTe
    have HMa : Hid (mayN n = true) := hmay
    have HWn : Hid (WfN n) := wf_read hmay (by rw [← hTe]; exact HW.out)
    have HN3 : Hid (NmAt w5 nv n) := hnew3 _ (Agr.below st)
    have HN5 : Hid (NmAt w5 v5 n) := hnew5 _ (Agr.refl _ _)
    obtain ⟨L, hL⟩ : ∃ L, n.length = L := ⟨_, rfl⟩
    have HLn : Hid (n.length = L) := hL
    obtain ⟨na, nc, hnv, -, -, -⟩ := id HN3.out
    obtain ⟨va, vc, hv5, -, -, -⟩ := id HN5.out
    rw [hL] at hnv hv5
    subst hnv hv5
    clear hok hbad hr HO2 hTe hmay hL hnew3 hnew5 st HFi
    go_wp2_with fail
    refine (con_NElem HN3.out HWn.out).mono ?_
    rintro e w6 ⟨-, h1⟩
    obtain ⟨kv, xs, rfl, own, hk, hb⟩ := h1 HMa.out
    clear h1
    have HTl : Hid (Dep (fun b => w5.heap.size ≤ b) w6 (elemN n) [.int .i64 0, .int .i64 16, .bool true, .slice none 0 0, kv]) := ElemR.tl own hk
    obtain ⟨ka, kc, rfl⟩ : ∃ ka kc, kv = .slice ka L kc := by rw [HLn.out] at own; rcases own.2 with ⟨h, h'⟩ | ⟨_, _, _, h, _⟩; exact ⟨none, 0, by rw [h, h']⟩; exact ⟨_, _, h⟩
    replace bel := below_step bel hb
    replace B0 := B0.later hb
    replace HN3 : Hid (NmAt w6 _ n) := HN3.out.later hb
    replace HN5 : Hid (NmAt w6 _ n) := HN5.out.later hb
    clear own hk hb
    replace B0 := B0.alloc (.cells #[.int .i64 0, .int .i64 16, .bool true, .slice none 0 0, .slice ka L kc] 28)
    have hz := zero_tlv.out
    have KB := Blk.new w6 [.int .i64 0, .int .i64 16, .bool true, .slice none 0 0, .slice ka L kc] 28 w6.heap.size rfl
    replace bel := below_alloc (o := .cells #[.int .i64 0, .int .i64 16, .bool true, .slice none 0 0, .slice ka L kc] 28) bel
    have st : Below w6.heap.size w6 (w6.alloc (.cells #[.int .i64 0, .int .i64 16, .bool true, .slice none 0 0, .slice ka L kc] 28)) := (Below.refl _ _).alloc (Nat.le_refl _) _
    go_upto_region 14 with (first | (refine wpList_store_row rfl 28 _ _ rfl w6.heap.size #[.int .i64 0, .int .i64 16, .bool true, .slice none 0 0, .slice ka L kc] rfl rfl 28 _ (heap_alloc_last _ _) (by rw [size_tlv]; rfl) rfl (by simp [Value.oneCell']) ?_; rw [World.setRow_alloc_new]) | fail)
    clear hz
    obtain ⟨gl, hgl⟩ : ∃ g, g = w6.heap.size := ⟨_, rfl⟩
    rw [← hgl] at KB
    generalize w6.alloc (.cells #[.int .i64 0, .int .i64 16, .bool true, .slice none 0 0, .slice ka L kc] 28) = V1 at *
    rw [← hgl]
    clear hgl
    have q5 := eq_nilN
    go_wp2_with fail
    refine (con_same16 (HN3.out.later st) (HN5.out.later st) HWn.out HWn.out).mono ?_
    rintro e w7 ⟨rfl, hb⟩
    rw [decide_eq_true rfl]
    replace bel := below_step bel hb
    replace st := below_step st hb
    replace B0 := B0.later hb
    replace KB := KB.later hb
    clear hb
    have l0 := B0.lt
    have lk := KB.lt
    have hLL : (loadVar 28 ⟨gl, 0, none⟩).run Try.prog w7 = .ok (.agg #[.int .i64 0, .int .i64 16, .bool true, .slice none 0 0, .slice ka L kc]) w7 := KB.load Try.underlying28 rfl size_tlv rfl
    go_wp2_with (first | (refine wpList_load_run (by rfl) (by rfl) (by rfl) hLL ?_) | (refine wpList_load_run (by rfl) (by rfl) (by rfl) (B0.load Try.underlying28 rfl size_tlv HL.out) ?_) | fail)
    refine (r12_Same _ (elemN n) T _ _ _ (Nat.le_refl _) (wf_elem HMa.out HWn.out) HW.out (HTl.out _ (Agr.below st)) (HT.out.later bel)).mono ?_
    rintro e w8 ⟨rfl, hb⟩
    rw [sameT_yes HTe.out.symm]
    replace bel := below_step bel hb
    go_wp2_with fail
    go_ret
    exact ⟨rfl, bel⟩
end Go.Proofs.Ytineihnipidmfaa
