/- The law GcmLong answers true: bytes of more than may be are refused, whichever they are. -/
import Derived.Test.YtogbmekgmjmonaaRows
import Derived.Test.YtogbmekgmjmonaaGcLaw
import Derived.Deep.OwnRows
import Derived.Deep.AppendLies
import Derived.Deep.WholeRow
import Derived.Deep.RegionHeld3
import Derived.Deep.DeepCutAuto
import Derived.Deep.DeepFit
namespace Go.Proofs.Ytogbmekgmjmonaa
open Go.RowKit

theorem mk_zero (n : Nat) (h : n ≤ 1099511627776) : ∃ M : List Value, u8s (List.replicate n 0) = M ∧ ∀ w : World, (Instr.makeSlice 22 (.int .i64 (n : Int)) (.int .i64 (n : Int))).run Try.prog w = .ok (.slice (some ⟨w.heap.size, 0, none⟩) n n) (w.alloc (.cells M.toArray 5)) := by
  refine ⟨_, rfl, fun w => ?_⟩
  have := run_make_row' 22 5 (.int .u8 0) 1 Try.underlying22 info_b16 rfl .i64 .i64 n (by omega) (by omega) w
  rw [made_zero] at this
  exact this

set_option linter.unusedSimpArgs false in
set_option maxRecDepth 100000 in
set_option maxHeartbeats 4000000 in
theorem law_gcmLong (p : Bool) (x : Int) (w : World) (_ : -9223372036854775808 ≤ x ∧ x < 9223372036854775808) :
    Calls Try.prog 5 #[.bool p, .int .i64 x] w fun e w' => e = .returned (.bool true) ∧ Below w.heap.size w w' := by
  cases p with
  | true =>
    by_cases h2 : x.tmod 2 = 0
    · obtain ⟨O, Oh0, mkO⟩ := mk_zero 16777233 (by decide)
      have Oh : Hid (u8s (List.replicate 16777233 0) = O) := Oh0
      replace mkO : ∀ w : World, (Instr.makeSlice 22 (.int .i64 16777233) (.int .i64 16777233)).run Try.prog w = .ok (.slice (some ⟨w.heap.size, 0, none⟩) 16777233 16777233) (w.alloc (.cells O.toArray 5)) := mkO
      clear Oh0
      obtain ⟨P, Ph0, mkP⟩ := mk_zero 32 (by decide)
      have Ph : Hid (u8s (List.replicate 32 0) = P) := Ph0
      replace mkP : ∀ w : World, (Instr.makeSlice 22 (.int .i64 32) (.int .i64 32)).run Try.prog w = .ok (.slice (some ⟨w.heap.size, 0, none⟩) 32 32) (w.alloc (.cells P.toArray 5)) := mkP
      clear Ph0
      obtain ⟨Q, Qh0, mkQ⟩ := mk_zero 12 (by decide)
      have Qh : Hid (u8s (List.replicate 12 0) = Q) := Qh0
      replace mkQ : ∀ w : World, (Instr.makeSlice 22 (.int .i64 12) (.int .i64 12)).run Try.prog w = .ok (.slice (some ⟨w.heap.size, 0, none⟩) 12 12) (w.alloc (.cells Q.toArray 5)) := mkQ
      clear Qh0
      go_enter Try.func5, Try.ntmps5
      go_wp2_with fail
      refine con_up.mono ?_
      rintro e w1 ⟨rfl, bel⟩
      have bb := bs_rep (((Blk.new w1 O 5 w1.heap.size rfl).alloc (.cells P.toArray 5)).alloc (.cells Q.toArray 5)) Oh.out (by decide)
      have bk := bs_rep ((Blk.new (w1.alloc (.cells O.toArray 5)) P 5 (w1.heap.size + 1) (by simp)).alloc (.cells Q.toArray 5)) Ph.out (by decide)
      have bn := bs_rep (Blk.new ((w1.alloc (.cells O.toArray 5)).alloc (.cells P.toArray 5)) Q 5 (w1.heap.size + 1 + 1) (by simp)) Qh.out (by decide)
      replace bel := below_alloc (o := (.cells Q.toArray 5)) (below_alloc (o := (.cells P.toArray 5)) (below_alloc (o := (.cells O.toArray 5)) bel))
      go_upto_region 8 with fail
      generalize ((w1.alloc (Obj.cells O.toArray 5)).alloc (Obj.cells P.toArray 5)).alloc (Obj.cells Q.toArray 5) = W at *
      clear mkO mkP mkQ
      have q2 := code_eq 2
      go_wp2_with fail
      refine (con_SealLong bk bn bb (bs_none _) List.length_replicate List.length_replicate (.inl (by rw [List.length_replicate]; decide))).mono ?_
      rintro e w2 ⟨ao2, cap2, rfl, hb2⟩
      replace bb := bb.later hb2
      replace bk := bk.later hb2
      replace bn := bn.later hb2
      replace bel := below_step bel hb2
      clear hb2
      go_wp2_with fail
      refine (con_OpenLong bk bn bb (bs_none _) List.length_replicate List.length_replicate (.inl (by rw [List.length_replicate]; decide))).mono ?_
      rintro e w3 ⟨ao3, cap3, rfl, hb2⟩
      replace bb := bb.later hb2
      replace bk := bk.later hb2
      replace bn := bn.later hb2
      replace bel := below_step bel hb2
      clear hb2
      go_wp2_with fail
      go_ret
      exact ⟨rfl, bel⟩
    · obtain ⟨O, Oh0, mkO⟩ := mk_zero 16777233 (by decide)
      have Oh : Hid (u8s (List.replicate 16777233 0) = O) := Oh0
      replace mkO : ∀ w : World, (Instr.makeSlice 22 (.int .i64 16777233) (.int .i64 16777233)).run Try.prog w = .ok (.slice (some ⟨w.heap.size, 0, none⟩) 16777233 16777233) (w.alloc (.cells O.toArray 5)) := mkO
      clear Oh0
      obtain ⟨P, Ph0, mkP⟩ := mk_zero 32 (by decide)
      have Ph : Hid (u8s (List.replicate 32 0) = P) := Ph0
      replace mkP : ∀ w : World, (Instr.makeSlice 22 (.int .i64 32) (.int .i64 32)).run Try.prog w = .ok (.slice (some ⟨w.heap.size, 0, none⟩) 32 32) (w.alloc (.cells P.toArray 5)) := mkP
      clear Ph0
      obtain ⟨Q, Qh0, mkQ⟩ := mk_zero 12 (by decide)
      have Qh : Hid (u8s (List.replicate 12 0) = Q) := Qh0
      replace mkQ : ∀ w : World, (Instr.makeSlice 22 (.int .i64 12) (.int .i64 12)).run Try.prog w = .ok (.slice (some ⟨w.heap.size, 0, none⟩) 12 12) (w.alloc (.cells Q.toArray 5)) := mkQ
      clear Qh0
      go_enter Try.func5, Try.ntmps5
      go_wp2_with fail
      refine con_up.mono ?_
      rintro e w1 ⟨rfl, bel⟩
      have bb := bs_rep (((Blk.new w1 O 5 w1.heap.size rfl).alloc (.cells P.toArray 5)).alloc (.cells Q.toArray 5)) Oh.out (by decide)
      have bk := bs_rep ((Blk.new (w1.alloc (.cells O.toArray 5)) P 5 (w1.heap.size + 1) (by simp)).alloc (.cells Q.toArray 5)) Ph.out (by decide)
      have bn := bs_rep (Blk.new ((w1.alloc (.cells O.toArray 5)).alloc (.cells P.toArray 5)) Q 5 (w1.heap.size + 1 + 1) (by simp)) Qh.out (by decide)
      replace bel := below_alloc (o := (.cells Q.toArray 5)) (below_alloc (o := (.cells P.toArray 5)) (below_alloc (o := (.cells O.toArray 5)) bel))
      go_upto_region 8 with fail
      generalize ((w1.alloc (Obj.cells O.toArray 5)).alloc (Obj.cells P.toArray 5)).alloc (Obj.cells Q.toArray 5) = W at *
      clear mkO mkP mkQ
      have q2 := code_eq 2
      go_wp2_with fail
      refine (con_SealLong bk bn (bs_none _) bb List.length_replicate List.length_replicate (.inr (by rw [List.length_replicate]; decide))).mono ?_
      rintro e w2 ⟨ao2, cap2, rfl, hb2⟩
      replace bb := bb.later hb2
      replace bk := bk.later hb2
      replace bn := bn.later hb2
      replace bel := below_step bel hb2
      clear hb2
      go_wp2_with fail
      refine (con_OpenLong bk bn (bs_none _) bb List.length_replicate List.length_replicate (.inr (by rw [List.length_replicate]; decide))).mono ?_
      rintro e w3 ⟨ao3, cap3, rfl, hb2⟩
      replace bb := bb.later hb2
      replace bk := bk.later hb2
      replace bn := bn.later hb2
      replace bel := below_step bel hb2
      clear hb2
      go_wp2_with fail
      go_ret
      exact ⟨rfl, bel⟩
  | false =>
    by_cases h2 : x.tmod 2 = 0
    · obtain ⟨O, Oh0, mkO⟩ := mk_zero 16777232 (by decide)
      have Oh : Hid (u8s (List.replicate 16777232 0) = O) := Oh0
      replace mkO : ∀ w : World, (Instr.makeSlice 22 (.int .i64 16777232) (.int .i64 16777232)).run Try.prog w = .ok (.slice (some ⟨w.heap.size, 0, none⟩) 16777232 16777232) (w.alloc (.cells O.toArray 5)) := mkO
      clear Oh0
      obtain ⟨P, Ph0, mkP⟩ := mk_zero 32 (by decide)
      have Ph : Hid (u8s (List.replicate 32 0) = P) := Ph0
      replace mkP : ∀ w : World, (Instr.makeSlice 22 (.int .i64 32) (.int .i64 32)).run Try.prog w = .ok (.slice (some ⟨w.heap.size, 0, none⟩) 32 32) (w.alloc (.cells P.toArray 5)) := mkP
      clear Ph0
      obtain ⟨Q, Qh0, mkQ⟩ := mk_zero 12 (by decide)
      have Qh : Hid (u8s (List.replicate 12 0) = Q) := Qh0
      replace mkQ : ∀ w : World, (Instr.makeSlice 22 (.int .i64 12) (.int .i64 12)).run Try.prog w = .ok (.slice (some ⟨w.heap.size, 0, none⟩) 12 12) (w.alloc (.cells Q.toArray 5)) := mkQ
      clear Qh0
      go_enter Try.func5, Try.ntmps5
      go_wp2_with fail
      refine con_up.mono ?_
      rintro e w1 ⟨rfl, bel⟩
      have bb := bs_rep (((Blk.new w1 O 5 w1.heap.size rfl).alloc (.cells P.toArray 5)).alloc (.cells Q.toArray 5)) Oh.out (by decide)
      have bk := bs_rep ((Blk.new (w1.alloc (.cells O.toArray 5)) P 5 (w1.heap.size + 1) (by simp)).alloc (.cells Q.toArray 5)) Ph.out (by decide)
      have bn := bs_rep (Blk.new ((w1.alloc (.cells O.toArray 5)).alloc (.cells P.toArray 5)) Q 5 (w1.heap.size + 1 + 1) (by simp)) Qh.out (by decide)
      replace bel := below_alloc (o := (.cells Q.toArray 5)) (below_alloc (o := (.cells P.toArray 5)) (below_alloc (o := (.cells O.toArray 5)) bel))
      go_upto_region 8 with fail
      generalize ((w1.alloc (Obj.cells O.toArray 5)).alloc (Obj.cells P.toArray 5)).alloc (Obj.cells Q.toArray 5) = W at *
      clear mkO mkP mkQ
      have q2 := code_eq 2
      go_wp2_with fail
      go_ret
      exact ⟨rfl, bel⟩
    · obtain ⟨O, Oh0, mkO⟩ := mk_zero 16777232 (by decide)
      have Oh : Hid (u8s (List.replicate 16777232 0) = O) := Oh0
      replace mkO : ∀ w : World, (Instr.makeSlice 22 (.int .i64 16777232) (.int .i64 16777232)).run Try.prog w = .ok (.slice (some ⟨w.heap.size, 0, none⟩) 16777232 16777232) (w.alloc (.cells O.toArray 5)) := mkO
      clear Oh0
      obtain ⟨P, Ph0, mkP⟩ := mk_zero 32 (by decide)
      have Ph : Hid (u8s (List.replicate 32 0) = P) := Ph0
      replace mkP : ∀ w : World, (Instr.makeSlice 22 (.int .i64 32) (.int .i64 32)).run Try.prog w = .ok (.slice (some ⟨w.heap.size, 0, none⟩) 32 32) (w.alloc (.cells P.toArray 5)) := mkP
      clear Ph0
      obtain ⟨Q, Qh0, mkQ⟩ := mk_zero 12 (by decide)
      have Qh : Hid (u8s (List.replicate 12 0) = Q) := Qh0
      replace mkQ : ∀ w : World, (Instr.makeSlice 22 (.int .i64 12) (.int .i64 12)).run Try.prog w = .ok (.slice (some ⟨w.heap.size, 0, none⟩) 12 12) (w.alloc (.cells Q.toArray 5)) := mkQ
      clear Qh0
      go_enter Try.func5, Try.ntmps5
      go_wp2_with fail
      refine con_up.mono ?_
      rintro e w1 ⟨rfl, bel⟩
      have bb := bs_rep (((Blk.new w1 O 5 w1.heap.size rfl).alloc (.cells P.toArray 5)).alloc (.cells Q.toArray 5)) Oh.out (by decide)
      have bk := bs_rep ((Blk.new (w1.alloc (.cells O.toArray 5)) P 5 (w1.heap.size + 1) (by simp)).alloc (.cells Q.toArray 5)) Ph.out (by decide)
      have bn := bs_rep (Blk.new ((w1.alloc (.cells O.toArray 5)).alloc (.cells P.toArray 5)) Q 5 (w1.heap.size + 1 + 1) (by simp)) Qh.out (by decide)
      replace bel := below_alloc (o := (.cells Q.toArray 5)) (below_alloc (o := (.cells P.toArray 5)) (below_alloc (o := (.cells O.toArray 5)) bel))
      go_upto_region 8 with fail
      generalize ((w1.alloc (Obj.cells O.toArray 5)).alloc (Obj.cells P.toArray 5)).alloc (Obj.cells Q.toArray 5) = W at *
      clear mkO mkP mkQ
      have q2 := code_eq 2
      go_wp2_with fail
      refine (con_SealLong bk bn (bs_none _) bb List.length_replicate List.length_replicate (.inr (by rw [List.length_replicate]; decide))).mono ?_
      rintro e w2 ⟨ao2, cap2, rfl, hb2⟩
      replace bb := bb.later hb2
      replace bk := bk.later hb2
      replace bn := bn.later hb2
      replace bel := below_step bel hb2
      clear hb2
      go_wp2_with fail
      go_ret
      exact ⟨rfl, bel⟩
end Go.Proofs.Ytogbmekgmjmonaa
