/- order.Digest. -/
import Derived.Test.YtjpnbbhpgchbpaaDoorRows
import Derived.Test.YtjpnbbhpgchbpaaDoorOBase
import Derived.Test.YtjpnbbhpgchbpaaDoorFrom
import Derived.Test.YtjpnbbhpgchbpaaDoorLimb
import Derived.Test.YtjpnbbhpgchbpaaDoorOAdd
namespace Go.Proofs.YtjpnbbhpgchbpaaDoor
open Go.RowKit

set_option maxRecDepth 100000 in
set_option maxHeartbeats 1000000 in
theorem digest_bad {v : Value} {bs : List Int} {c : Int} {w : World} (h : Bs w v bs) (hl : decBad bs c) :
    Calls Tryd.prog 16 #[v] w fun e w' => e = .returned (.tuple #[.agg #[.int .u64 0, .int .u64 0, .int .u64 0, .int .u64 0, .int .u64 0, .int .u64 0], .iface 35 (.int .i64 c)]) ∧ Below w.heap.size w w' := by
  have B0 := Blk.new w (us [0, 0, 0, 0, 0, 0]) 24 w.heap.size rfl
  have bel : Below w.heap.size w (w.alloc (.cells (us [0, 0, 0, 0, 0, 0]).toArray 24)) := (Below.refl _ _).alloc (Nat.le_refl _) _
  have q1 := iface_not c
  go_enter Tryd.func16, Tryd.ntmps16
  go_wp2_with fail
  simp only [us, List.map_cons, List.map_nil] at B0 bel
  generalize w.alloc (Obj.cells #[.int .u64 0, .int .u64 0, .int .u64 0, .int .u64 0, .int .u64 0, .int .u64 0] 24) = W at *
  refine (from_bad (h.later (bel.mono (Nat.le_refl _))) hl).mono ?_
  rintro e w1 ⟨rfl, hb⟩
  replace B0 := B0.later hb
  replace bel := below_step bel hb
  clear hb
  have lt0 := B0.lt
  have c0 := B0.cell 0 _ rfl; have q0 := B0.frozen 0; have c1 := B0.cell 1 _ rfl; have q1 := B0.frozen 1; have c2 := B0.cell 2 _ rfl; have q2 := B0.frozen 2; have c3 := B0.cell 3 _ rfl; have q3 := B0.frozen 3; have c4 := B0.cell 4 _ rfl; have q4 := B0.frozen 4; have c5 := B0.cell 5 _ rfl; have q5 := B0.frozen 5
  go_wp2_with fail
  exact bodyPost_ret (v := .tuple #[.agg #[.int .u64 0, .int .u64 0, .int .u64 0, .int .u64 0, .int .u64 0, .int .u64 0], .iface 35 (.int .i64 c)]) (by simp [results, Tryd.results16, go_sem, lt0, c0, c1, c2, c3, c4, c5]) rfl ⟨rfl, below_alloc (below_put6 bel (Nat.le_refl _))⟩

set_option maxRecDepth 100000 in
set_option maxHeartbeats 1000000 in
theorem digest_ok {v : Value} {bs : List Int} {w : World} (G : GlsO w) (h : Bs w v bs) (hl : bs.length = 48) (hB : byt bs) :
    Calls Tryd.prog 16 #[v] w fun e w' => ∃ z0 z1 z2 z3 z4 z5 : Int, e = .returned (.tuple #[.agg #[.int .u64 z0, .int .u64 z1, .int .u64 z2, .int .u64 z3, .int .u64 z4, .int .u64 z5], .nilIface]) ∧ fits [z0, z1, z2, z3, z4, z5] ∧ v64 [z0, z1, z2, z3, z4, z5] = beN bs % QQ ∧ Below w.heap.size w w' := by
  have B0 := Blk.new w (us [0, 0, 0, 0, 0, 0]) 24 w.heap.size rfl
  have bel : Below w.heap.size w (w.alloc (.cells (us [0, 0, 0, 0, 0, 0]).toArray 24)) := (Below.refl _ _).alloc (Nat.le_refl _) _
  have q1 := iface_nilnot
  go_enter Tryd.func16, Tryd.ntmps16
  go_wp2_with fail
  simp only [us, List.map_cons, List.map_nil] at B0 bel
  generalize w.alloc (Obj.cells #[.int .u64 0, .int .u64 0, .int .u64 0, .int .u64 0, .int .u64 0, .int .u64 0] 24) = W at *
  refine (from6 (h.later (bel.mono (Nat.le_refl _))) hl hB).mono ?_
  rintro e w1 ⟨s0, s1, s2, s3, s4, s5, rfl, fS, hs, hb⟩
  have HS : Hid _ := hs
  replace B0 := B0.later hb
  replace bel := below_step bel hb
  clear hb hs
  have lt0 := B0.lt
  go_wp2_with fail
  refine (orest6 (G.below (below_alloc bel)) fS).mono ?_
  rintro e w2 ⟨z0, z1, z2, z3, z4, z5, rfl, fZ, hz, hb⟩
  have HZ : Hid _ := hz.trans (by rw [HS.out])
  replace B0 := (B0.alloc (.cells (us [s0, s1, s2, s3, s4, s5]).toArray 24)).later hb
  replace bel := below_step (below_alloc bel) hb
  clear hb hz
  have lt2 := B0.lt
  have c0 := B0.cell 0 _ rfl; have q0 := B0.frozen 0; have c1 := B0.cell 1 _ rfl; have q1 := B0.frozen 1; have c2 := B0.cell 2 _ rfl; have q2 := B0.frozen 2; have c3 := B0.cell 3 _ rfl; have q3 := B0.frozen 3; have c4 := B0.cell 4 _ rfl; have q4 := B0.frozen 4; have c5 := B0.cell 5 _ rfl; have q5 := B0.frozen 5
  go_wp2_with fail
  exact bodyPost_ret (v := .tuple #[.agg #[.int .u64 z0, .int .u64 z1, .int .u64 z2, .int .u64 z3, .int .u64 z4, .int .u64 z5], .nilIface]) (by simp [results, Tryd.results16, go_sem, c0, c1, c2, c3, c4, c5]) rfl ⟨z0, z1, z2, z3, z4, z5, rfl, fZ, HZ.out, below_put6 bel (Nat.le_refl _)⟩
end Go.Proofs.YtjpnbbhpgchbpaaDoor
