/- order.Decode: the number of 48 bytes, below the order; or what is amiss. -/
import Derived.Test.YtjpnbbhpgchbpaaGreatDoorRows
import Derived.Test.YtjpnbbhpgchbpaaGreatDoorOBase
import Derived.Test.YtjpnbbhpgchbpaaGreatDoorFrom
import Derived.Test.YtjpnbbhpgchbpaaGreatDoorLimb
import Derived.Test.YtjpnbbhpgchbpaaGreatDoorOAdd
import Derived.Test.YtjpnbbhpgchbpaaGreatDoorODigest
namespace Go.Proofs.YtjpnbbhpgchbpaaGreatDoor
open Go.RowKit

theorem same_no {A : Int} (h : A ≠ 0) : sameI A 0 = 0 := by unfold sameI; rw [if_neg h]

theorem same_yes {A : Int} (h : A = 0) : sameI A 0 = 1 := by unfold sameI; rw [if_pos h]

set_option maxRecDepth 100000 in
set_option maxHeartbeats 1000000 in
theorem odecode_bad {v : Value} {bs : List Int} {c : Int} {w : World} (h : Bs w v bs) (hl : decBad bs c) :
    Calls Tryz.prog 100 #[v] w fun e w' => e = .returned (.tuple #[.agg #[.int .u64 0, .int .u64 0, .int .u64 0, .int .u64 0, .int .u64 0, .int .u64 0], .iface 34 (.int .i64 c)]) ∧ Below w.heap.size w w' := by
  have B0 := Blk.new w (us [0, 0, 0, 0, 0, 0]) 24 w.heap.size rfl
  have bel : Below w.heap.size w (w.alloc (.cells (us [0, 0, 0, 0, 0, 0]).toArray 24)) := (Below.refl _ _).alloc (Nat.le_refl _) _
  have q1 := iface_not c
  go_enter Tryz.func100, Tryz.ntmps100
  go_wp2_with fail
  simp only [us, List.map_cons, List.map_nil] at B0 bel
  generalize w.alloc (Obj.cells #[.int .u64 0, .int .u64 0, .int .u64 0, .int .u64 0, .int .u64 0, .int .u64 0] 24) = W at *
  refine (from_bad (h.later (bel.mono (Nat.le_refl _))) hl).mono ?_
  rintro e w1 ⟨rfl, hb⟩
  replace B0 := B0.later hb
  replace bel := below_step bel hb
  clear hb
  have lt0 := B0.lt
  have c0 := B0.cell 0 _ rfl; have q0 := B0.frozen 0; have c1 := B0.cell 1 _ rfl; have q1 := B0.frozen 1; have c2 := B0.cell 2 _ rfl; have q2 := B0.frozen 2; have c3 := B0.cell 3 _ rfl; have q3 := B0.frozen 3; have c4 := B0.cell 4 _ rfl; have q4 := B0.frozen 4; have c5 := B0.cell 5 _ rfl; have q5 := B0.frozen 5
  go_wp2_with fail
  exact bodyPost_ret (v := .tuple #[.agg #[.int .u64 0, .int .u64 0, .int .u64 0, .int .u64 0, .int .u64 0, .int .u64 0], .iface 34 (.int .i64 c)]) (by simp [results, Tryz.results100, go_sem, lt0, c0, c1, c2, c3, c4, c5]) rfl ⟨rfl, below_alloc (below_put6 bel (Nat.le_refl _))⟩

set_option maxRecDepth 100000 in
set_option maxHeartbeats 1000000 in
theorem odecode_zero {v : Value} {bs : List Int} {w : World} (h : Bs w v bs) (hl : bs.length = 48) (hB : byt bs) (hr : beN bs = 0) :
    Calls Tryz.prog 100 #[v] w fun e w' => e = .returned (.tuple #[.agg #[.int .u64 0, .int .u64 0, .int .u64 0, .int .u64 0, .int .u64 0, .int .u64 0], .iface 34 (.int .i64 3)]) ∧ Below w.heap.size w w' := by
  have HR : Hid _ := hr
  clear hr
  have B0 := Blk.new w (us [0, 0, 0, 0, 0, 0]) 24 w.heap.size rfl
  have bel : Below w.heap.size w (w.alloc (.cells (us [0, 0, 0, 0, 0, 0]).toArray 24)) := (Below.refl _ _).alloc (Nat.le_refl _) _
  have q1 := iface_nilnot
  go_enter Tryz.func100, Tryz.ntmps100
  go_wp2_with fail
  simp only [us, List.map_cons, List.map_nil] at B0 bel
  generalize w.alloc (Obj.cells #[.int .u64 0, .int .u64 0, .int .u64 0, .int .u64 0, .int .u64 0, .int .u64 0] 24) = W at *
  refine (from6 (h.later (bel.mono (Nat.le_refl _))) hl hB).mono ?_
  rintro e w1 ⟨s0, s1, s2, s3, s4, s5, rfl, fS, hs, hb⟩
  have HS : Hid _ := hs
  replace B0 := B0.later hb
  replace bel := below_step bel hb
  clear hb hs
  have lt0 := B0.lt
  have HQ : Hid _ := same_yes (A := v64 [s0, s1, s2, s3, s4, s5]) (by rw [HS.out]; exact HR.out)
  go_wp2_with fail
  refine (same_is fS (fits_zero 6) rfl rfl).mono ?_
  rintro e w2 ⟨rfl, hb⟩
  rw [show v64 [0, 0, 0, 0, 0, 0] = 0 from rfl, HQ.out]
  have B1 := (Blk.new w1 (us [s0, s1, s2, s3, s4, s5]) 24 w1.heap.size rfl).later hb
  replace B0 := (B0.alloc (.cells (us [s0, s1, s2, s3, s4, s5]).toArray 24)).later hb
  replace bel := below_step (below_alloc bel) hb
  clear hb HQ
  obtain ⟨bi, hbi⟩ : ∃ b, b = w1.heap.size := ⟨_, rfl⟩
  rw [← hbi] at B1 lt0 ⊢
  clear hbi
  have lt2 := B0.lt
  have lt3 := B1.lt
  have c0 := B0.cell 0 _ rfl; have q0 := B0.frozen 0; have c1 := B0.cell 1 _ rfl; have q1 := B0.frozen 1; have c2 := B0.cell 2 _ rfl; have q2 := B0.frozen 2; have c3 := B0.cell 3 _ rfl; have q3 := B0.frozen 3; have c4 := B0.cell 4 _ rfl; have q4 := B0.frozen 4; have c5 := B0.cell 5 _ rfl; have q5 := B0.frozen 5
  go_wp2_with fail
  exact bodyPost_ret (v := .tuple #[.agg #[.int .u64 0, .int .u64 0, .int .u64 0, .int .u64 0, .int .u64 0, .int .u64 0], .iface 34 (.int .i64 3)]) (by simp [results, Tryz.results100, go_sem, c0, c1, c2, c3, c4, c5]) rfl ⟨rfl, below_put6 bel (Nat.le_refl _)⟩

set_option maxRecDepth 100000 in
set_option maxHeartbeats 1000000 in
theorem odecode_range {v : Value} {bs : List Int} {w : World} (G : GlsO w) (h : Bs w v bs) (hl : bs.length = 48) (hB : byt bs) (hr : QQ ≤ beN bs) :
    Calls Tryz.prog 100 #[v] w fun e w' => e = .returned (.tuple #[.agg #[.int .u64 0, .int .u64 0, .int .u64 0, .int .u64 0, .int .u64 0, .int .u64 0], .iface 34 (.int .i64 3)]) ∧ Below w.heap.size w w' := by
  have HR : Hid _ := hr
  clear hr
  have B0 := Blk.new w (us [0, 0, 0, 0, 0, 0]) 24 w.heap.size rfl
  have bel : Below w.heap.size w (w.alloc (.cells (us [0, 0, 0, 0, 0, 0]).toArray 24)) := (Below.refl _ _).alloc (Nat.le_refl _) _
  have q1 := iface_nilnot
  go_enter Tryz.func100, Tryz.ntmps100
  go_wp2_with fail
  simp only [us, List.map_cons, List.map_nil] at B0 bel
  generalize w.alloc (Obj.cells #[.int .u64 0, .int .u64 0, .int .u64 0, .int .u64 0, .int .u64 0, .int .u64 0] 24) = W at *
  refine (from6 (h.later (bel.mono (Nat.le_refl _))) hl hB).mono ?_
  rintro e w1 ⟨s0, s1, s2, s3, s4, s5, rfl, fS, hs, hb⟩
  have HS : Hid _ := hs
  replace B0 := B0.later hb
  replace bel := below_step bel hb
  clear hb hs
  have lt0 := B0.lt
  have HQ : Hid _ := same_no (A := v64 [s0, s1, s2, s3, s4, s5]) (by rw [HS.out]; have := HR.out; have := QQ_pos; omega)
  go_wp2_with fail
  refine (same_is fS (fits_zero 6) rfl rfl).mono ?_
  rintro e w2 ⟨rfl, hb⟩
  rw [show v64 [0, 0, 0, 0, 0, 0] = 0 from rfl, HQ.out]
  have B1 := (Blk.new w1 (us [s0, s1, s2, s3, s4, s5]) 24 w1.heap.size rfl).later hb
  replace B0 := (B0.alloc (.cells (us [s0, s1, s2, s3, s4, s5]).toArray 24)).later hb
  replace bel := below_step (below_alloc bel) hb
  clear hb HQ
  obtain ⟨bi, hbi⟩ : ∃ b, b = w1.heap.size := ⟨_, rfl⟩
  rw [← hbi] at B1 lt0 ⊢
  clear hbi
  have lt2 := B0.lt
  have lt3 := B1.lt
  have HL : Hid _ := lessN_no (A := [s0, s1, s2, s3, s4, s5]) (B := [17072048233947408755, 6348401684107011962, 14367412456785391071, 18446744073709551615, 18446744073709551615, 18446744073709551615]) (by rw [HS.out, QQ_v]; exact HR.out)
  have GW := G.below bel
  obtain ⟨l0, l1⟩ := GW.lts
  obtain ⟨⟨a0, a1, a2, a3, a4, a5⟩, GW1⟩ := GW
  clear GW1
  have d0 := B1.cell 0 _ rfl; have f0 := B1.frozen 0; have d1 := B1.cell 1 _ rfl; have f1 := B1.frozen 1; have d2 := B1.cell 2 _ rfl; have f2 := B1.frozen 2; have d3 := B1.cell 3 _ rfl; have f3 := B1.frozen 3; have d4 := B1.cell 4 _ rfl; have f4 := B1.frozen 4; have d5 := B1.cell 5 _ rfl; have f5 := B1.frozen 5
  go_wp2_with fail
  refine (less6 fS fQ).mono ?_
  rintro e w3 ⟨rfl, hb⟩
  rw [HL.out]
  replace B1 := B1.later hb
  replace B0 := B0.later hb
  replace bel := below_step bel hb
  clear hb HL a0 a1 a2 a3 a4 a5 l0 l1 lt2 lt3 d0 d1 d2 d3 d4 d5 f0 f1 f2 f3 f4 f5
  have lt2 := B0.lt
  have lt3 := B1.lt
  have c0 := B0.cell 0 _ rfl; have q0 := B0.frozen 0; have c1 := B0.cell 1 _ rfl; have q1 := B0.frozen 1; have c2 := B0.cell 2 _ rfl; have q2 := B0.frozen 2; have c3 := B0.cell 3 _ rfl; have q3 := B0.frozen 3; have c4 := B0.cell 4 _ rfl; have q4 := B0.frozen 4; have c5 := B0.cell 5 _ rfl; have q5 := B0.frozen 5
  go_wp2_with fail
  exact bodyPost_ret (v := .tuple #[.agg #[.int .u64 0, .int .u64 0, .int .u64 0, .int .u64 0, .int .u64 0, .int .u64 0], .iface 34 (.int .i64 3)]) (by simp [results, Tryz.results100, go_sem, c0, c1, c2, c3, c4, c5]) rfl ⟨rfl, below_put6 bel (Nat.le_refl _)⟩

set_option maxRecDepth 100000 in
set_option maxHeartbeats 1000000 in
theorem odecode_ok {v : Value} {bs : List Int} {w : World} (G : GlsO w) (h : Bs w v bs) (hl : bs.length = 48) (hB : byt bs) (h0 : 0 < beN bs) (hr : beN bs < QQ) :
    Calls Tryz.prog 100 #[v] w fun e w' => ∃ s0 s1 s2 s3 s4 s5 : Int, e = .returned (.tuple #[.agg #[.int .u64 s0, .int .u64 s1, .int .u64 s2, .int .u64 s3, .int .u64 s4, .int .u64 s5], .nilIface]) ∧ fits [s0, s1, s2, s3, s4, s5] ∧ v64 [s0, s1, s2, s3, s4, s5] = beN bs ∧ Below w.heap.size w w' := by
  have HR : Hid _ := hr
  clear hr
  have H0 : Hid _ := h0
  clear h0
  have B0 := Blk.new w (us [0, 0, 0, 0, 0, 0]) 24 w.heap.size rfl
  have bel : Below w.heap.size w (w.alloc (.cells (us [0, 0, 0, 0, 0, 0]).toArray 24)) := (Below.refl _ _).alloc (Nat.le_refl _) _
  have q1 := iface_nilnot
  go_enter Tryz.func100, Tryz.ntmps100
  go_wp2_with fail
  simp only [us, List.map_cons, List.map_nil] at B0 bel
  generalize w.alloc (Obj.cells #[.int .u64 0, .int .u64 0, .int .u64 0, .int .u64 0, .int .u64 0, .int .u64 0] 24) = W at *
  refine (from6 (h.later (bel.mono (Nat.le_refl _))) hl hB).mono ?_
  rintro e w1 ⟨s0, s1, s2, s3, s4, s5, rfl, fS, hs, hb⟩
  have HS : Hid _ := hs
  replace B0 := B0.later hb
  replace bel := below_step bel hb
  clear hb hs
  have lt0 := B0.lt
  have HQ : Hid _ := same_no (A := v64 [s0, s1, s2, s3, s4, s5]) (by rw [HS.out]; have := H0.out; omega)
  go_wp2_with fail
  refine (same_is fS (fits_zero 6) rfl rfl).mono ?_
  rintro e w2 ⟨rfl, hb⟩
  rw [show v64 [0, 0, 0, 0, 0, 0] = 0 from rfl, HQ.out]
  have B1 := (Blk.new w1 (us [s0, s1, s2, s3, s4, s5]) 24 w1.heap.size rfl).later hb
  replace B0 := (B0.alloc (.cells (us [s0, s1, s2, s3, s4, s5]).toArray 24)).later hb
  replace bel := below_step (below_alloc bel) hb
  clear hb HQ
  obtain ⟨bi, hbi⟩ : ∃ b, b = w1.heap.size := ⟨_, rfl⟩
  rw [← hbi] at B1 lt0 ⊢
  clear hbi
  have lt2 := B0.lt
  have lt3 := B1.lt
  have HL : Hid _ := lessN_yes (A := [s0, s1, s2, s3, s4, s5]) (B := [17072048233947408755, 6348401684107011962, 14367412456785391071, 18446744073709551615, 18446744073709551615, 18446744073709551615]) (by rw [HS.out, QQ_v]; exact HR.out)
  have GW := G.below bel
  obtain ⟨l0, l1⟩ := GW.lts
  obtain ⟨⟨a0, a1, a2, a3, a4, a5⟩, GW1⟩ := GW
  clear GW1
  have d0 := B1.cell 0 _ rfl; have f0 := B1.frozen 0; have d1 := B1.cell 1 _ rfl; have f1 := B1.frozen 1; have d2 := B1.cell 2 _ rfl; have f2 := B1.frozen 2; have d3 := B1.cell 3 _ rfl; have f3 := B1.frozen 3; have d4 := B1.cell 4 _ rfl; have f4 := B1.frozen 4; have d5 := B1.cell 5 _ rfl; have f5 := B1.frozen 5
  go_wp2_with fail
  refine (less6 fS fQ).mono ?_
  rintro e w3 ⟨rfl, hb⟩
  rw [HL.out]
  replace B1 := B1.later hb
  replace B0 := B0.later hb
  replace bel := below_step bel hb
  clear hb HL a0 a1 a2 a3 a4 a5 l0 l1 lt2 lt3 d0 d1 d2 d3 d4 d5 f0 f1 f2 f3 f4 f5
  have lt2 := B0.lt
  have lt3 := B1.lt
  have c0 := B0.cell 0 _ rfl; have q0 := B0.frozen 0; have c1 := B0.cell 1 _ rfl; have q1 := B0.frozen 1; have c2 := B0.cell 2 _ rfl; have q2 := B0.frozen 2; have c3 := B0.cell 3 _ rfl; have q3 := B0.frozen 3; have c4 := B0.cell 4 _ rfl; have q4 := B0.frozen 4; have c5 := B0.cell 5 _ rfl; have q5 := B0.frozen 5
  have d0 := B1.cell 0 _ rfl; have f0 := B1.frozen 0; have d1 := B1.cell 1 _ rfl; have f1 := B1.frozen 1; have d2 := B1.cell 2 _ rfl; have f2 := B1.frozen 2; have d3 := B1.cell 3 _ rfl; have f3 := B1.frozen 3; have d4 := B1.cell 4 _ rfl; have f4 := B1.frozen 4; have d5 := B1.cell 5 _ rfl; have f5 := B1.frozen 5
  go_wp2_with fail
  exact bodyPost_ret (v := .tuple #[.agg #[.int .u64 s0, .int .u64 s1, .int .u64 s2, .int .u64 s3, .int .u64 s4, .int .u64 s5], .nilIface]) (by simp [results, Tryz.results100, go_sem, c0, c1, c2, c3, c4, c5]) rfl ⟨s0, s1, s2, s3, s4, s5, rfl, fS, HS.out, below_put6 bel (Nat.le_refl _)⟩
end Go.Proofs.YtjpnbbhpgchbpaaGreatDoor
