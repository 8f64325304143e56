/- The law's up. -/
import Derived.Test.YtineihnipidmfaaRows
import Derived.Test.YtineihnipidmfaaNmPt
import Derived.Test.YtineihnipidmfaaNmSpec
import Derived.Test.YtineihnipidmfaaNlElem
import Derived.Test.YtineihnipidmfaaDrWrite
import Derived.Test.YtineihnipidmfaaDrTG
import Derived.Test.YtineihnipidmfaaSConv
import Derived.Deep.OwnRows
import Derived.Deep.AppendLies
import Derived.Great.BuildSlice
import Derived.Laws.Rows
import Derived.BigQuiet
import Derived.Deep.WholeRow
import Derived.Deep.RegionHeld3
import Derived.Deep.DeepCutAuto
import Derived.Deep.DeepFit
namespace Go.Proofs.Ytineihnipidmfaa
open Go.RowKit

theorem eq_nilN : ∀ w : World, (binOp .eql 30 .nilIface .nilIface).run Try.prog w = .ok (.bool true) w := fun _ => by kernel_rfl
theorem wf_up : WfN [(3, [97])] := fun i p hp => by
  match i, hp with
  | 0, hp =>
    simp at hp
    subst hp
    exact ⟨by decide, fun j => by match j with | 0 => decide | j + 1 => simp, by decide⟩
  | i + 1, hp => simp at hp
set_option linter.unusedSimpArgs false in
set_option maxRecDepth 100000 in
set_option maxHeartbeats 1000000 in
theorem con_up16 {w : World} : Calls Try.prog 8 #[] w fun e w' => e = .returned (.bool true) ∧ Below w.heap.size w w' := by
  obtain ⟨jp, hjp, hp0, hp1, hp2⟩ := info_partsD info_pt
  have HF : Hid _ := fill_pt (a := .int .i64 3) (b := .string { data := #[97] })
  have B0 := Blk.new w [.int .i64 3, .string { data := #[97] }] 47 w.heap.size rfl
  have bel : Below w.heap.size w (w.alloc (.cells #[.int .i64 3, .string { data := #[97] }] 47)) := (Below.refl _ _).alloc (Nat.le_refl _) _
  have HN : Hid (NmAt (w.alloc (.cells #[.int .i64 3, .string { data := #[97] }] 47)) (.slice (some ⟨w.heap.size, 0, none⟩) 1 1) [(3, [97])]) := ⟨_, 1, rfl, Nat.le_refl _, by decide, fun _ => ⟨w.heap.size, 0, rfl, B0.lt, fun i p hp => by
    match i, hp with
    | 0, hp =>
      simp at hp
      subst hp
      exact ⟨B0.cell 0 _ rfl, B0.cell 1 _ rfl⟩
    | i + 1, hp => simp at hp⟩⟩
  clear B0
  go_enter Try.func8, Try.ntmps8
  have hz := zero_pt
  go_wp2_with (first | (refine Go.wpList_buildSlice rfl 23 47 1 _ rfl #[.int .i64 3, .string { data := #[97] }] jp _ Try.underlying23 hjp hp0 (by rw [hp1]; decide) (by rw [hp1]; decide) (by rw [hp1]; refine (congrArg _ (?_ : _ = [(0, Value.agg #[.int .i64 3, .string { data := #[97] }])])).trans HF.out; kernel_rfl) ?_) | fail)
  clear hz
  generalize w.alloc (.cells #[.int .i64 3, .string { data := #[97] }] 47) = W at *
  refine (con_NElem HN.out wf_up).mono ?_
  rintro e w1 ⟨-, h1⟩
  obtain ⟨kv, xs, rfl, own, hk, hb⟩ := h1 (by decide)
  have HT : Hid (Dep (fun b => W.heap.size ≤ b) w1 (elemN [(3, [97])]) [.int .i64 0, .int .i64 16, .bool true, .slice none 0 0, kv]) := ElemR.tl own hk
  obtain ⟨ka, kc, rfl⟩ : ∃ ka kc, kv = .slice ka 1 kc := by rcases own.2 with ⟨h, h'⟩ | ⟨_, _, _, h, _⟩; exact ⟨none, 0, by rw [h]; exact absurd h' (by decide)⟩; exact ⟨_, _, h⟩
  replace bel := below_step bel hb
  clear own hk hb h1
  have hz := zero_tlv.out
  have KB := Blk.new w1 [.int .i64 0, .int .i64 16, .bool true, .slice none 0 0, .slice ka 1 kc] 28 w1.heap.size rfl
  replace bel := below_alloc (o := .cells #[.int .i64 0, .int .i64 16, .bool true, .slice none 0 0, .slice ka 1 kc] 28) bel
  have HT2 : Hid (TlAt (w1.alloc (.cells #[.int .i64 0, .int .i64 16, .bool true, .slice none 0 0, .slice ka 1 kc] 28)) (elemN [(3, [97])]) [.int .i64 0, .int .i64 16, .bool true, .slice none 0 0, .slice ka 1 kc]) := HT.out _ (Agr.below ((Below.refl _ _).alloc (Nat.le_refl _) _))
  go_upto_region 2 with (first | (refine wpList_store_row rfl 28 _ _ rfl w1.heap.size #[.int .i64 0, .int .i64 16, .bool true, .slice none 0 0, .slice ka 1 kc] rfl rfl 28 _ (heap_alloc_last _ _) (by rw [size_tlv]; rfl) rfl (by simp [Value.oneCell']) ?_; rw [World.setRow_alloc_new]) | fail)
  clear hz
  obtain ⟨gl, hgl⟩ : ∃ g, g = w1.heap.size := ⟨_, rfl⟩
  rw [← hgl] at KB
  generalize w1.alloc (.cells #[.int .i64 0, .int .i64 16, .bool true, .slice none 0 0, .slice ka 1 kc] 28) = V1 at *
  rw [← hgl]
  clear hgl HT
  have hLL : (loadVar 28 ⟨gl, 0, none⟩).run Try.prog V1 = .ok (.agg #[.int .i64 0, .int .i64 16, .bool true, .slice none 0 0, .slice ka 1 kc]) V1 := KB.load Try.underlying28 rfl size_tlv rfl
  have lk := KB.lt
  go_wp2_with (first | (refine wpList_load_run (by rfl) (by rfl) (by rfl) hLL ?_) | fail)
  refine (r12_Write (by decide) (fun _ => by decide) HT2.out).mono ?_
  rintro e w2 ⟨bv, rfl, hw, -, hb⟩
  have own2 := hw (by decide)
  have HB : Hid (Bs w2 bv [48, 12, 49, 10, 48, 8, 6, 3, 85, 4, 3, 12, 1, 97]) := Bs.of_own own2
  replace bel := below_step bel hb
  have hw0 : wrN (elemN [(3, [97])]) = 0 := by decide
  rw [hw0]
  clear hb hw own2 lk hLL KB hw0
  obtain ⟨ba, bc, hbv, -, -, -⟩ := id HB.out
  subst hbv
  have x1 := conv_any (v := .slice ba 14 bc) HB.out
  have q2 : strOfNums [48, 12, 49, 10, 48, 8, 6, 3, 85, 4, 3, 12, 1, 97] = { data := #[48, 12, 49, 10, 48, 8, 6, 3, 85, 4, 3, 12, 1, 97] } := rfl
  rw [q2] at x1
  clear q2
  have q5 := eq_nilN
  go_wp2_with fail
  go_ret
  exact ⟨rfl, bel⟩
end Go.Proofs.Ytineihnipidmfaa
