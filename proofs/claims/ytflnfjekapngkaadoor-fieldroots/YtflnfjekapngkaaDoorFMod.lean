/- field.modulus and field.P: the tables read. -/
import Derived.Test.YtflnfjekapngkaaDoorFBase
namespace Go.Proofs.YtflnfjekapngkaaDoor
open Go.RowKit

set_option maxRecDepth 100000 in
set_option maxHeartbeats 400000 in
theorem fmod_any {m0 m1 m2 m3 m4 m5 t0 t1 t2 t3 t4 t5 : Int} {w : World} (l0 : 0 < w.heap.size) (l1 : 1 < w.heap.size) (a0 : w.cell? ⟨0, 0, none⟩ = some (.int .u64 m0)) (a1 : w.cell? ⟨0, 1, none⟩ = some (.int .u64 m1)) (a2 : w.cell? ⟨0, 2, none⟩ = some (.int .u64 m2)) (a3 : w.cell? ⟨0, 3, none⟩ = some (.int .u64 m3)) (a4 : w.cell? ⟨0, 4, none⟩ = some (.int .u64 m4)) (a5 : w.cell? ⟨0, 5, none⟩ = some (.int .u64 m5)) (b0 : w.cell? ⟨1, 0, none⟩ = some (.int .u64 t0)) (b1 : w.cell? ⟨1, 1, none⟩ = some (.int .u64 t1)) (b2 : w.cell? ⟨1, 2, none⟩ = some (.int .u64 t2)) (b3 : w.cell? ⟨1, 3, none⟩ = some (.int .u64 t3)) (b4 : w.cell? ⟨1, 4, none⟩ = some (.int .u64 t4)) (b5 : w.cell? ⟨1, 5, none⟩ = some (.int .u64 t5)) :
    Calls Tryd.prog 33 #[] w fun e w' => e = .returned (.agg #[.int .u64 m0, .int .u64 m1, .int .u64 m2, .int .u64 m3, .int .u64 m4, .int .u64 m5, .int .u64 4294967297, .int .u64 t0, .int .u64 t1, .int .u64 t2, .int .u64 t3, .int .u64 t4, .int .u64 t5]) ∧ Below w.heap.size w w' := by
  go_enter Tryd.func33, Tryd.ntmps33
  go_wp2
  exact bodyPost_ret (v := .agg #[.int .u64 m0, .int .u64 m1, .int .u64 m2, .int .u64 m3, .int .u64 m4, .int .u64 m5, .int .u64 4294967297, .int .u64 t0, .int .u64 t1, .int .u64 t2, .int .u64 t3, .int .u64 t4, .int .u64 t5]) (by simp [results, Tryd.results33, go_sem]) rfl ⟨rfl, (Below.refl _ _).alloc (Nat.le_refl _) _⟩

theorem fmod {w : World} (G : Gls w) :
    Calls Tryd.prog 33 #[] w fun e w' => e = .returned (.agg #[.int .u64 4294967295, .int .u64 18446744069414584320, .int .u64 18446744073709551614, .int .u64 18446744073709551615, .int .u64 18446744073709551615, .int .u64 18446744073709551615, .int .u64 4294967297, .int .u64 18446744065119617025, .int .u64 8589934592, .int .u64 18446744065119617024, .int .u64 8589934592, .int .u64 1, .int .u64 0]) ∧ Below w.heap.size w w' :=
  fmod_any G.lts.1 G.lts.2 G.1.1 G.1.2.1 G.1.2.2.1 G.1.2.2.2.1 G.1.2.2.2.2.1 G.1.2.2.2.2.2 G.2.1 G.2.2.1 G.2.2.2.1 G.2.2.2.2.1 G.2.2.2.2.2.1 G.2.2.2.2.2.2

theorem fp_any {m0 m1 m2 m3 m4 m5 : Int} {w : World} (l0 : 0 < w.heap.size) (a0 : w.cell? ⟨0, 0, none⟩ = some (.int .u64 m0)) (a1 : w.cell? ⟨0, 1, none⟩ = some (.int .u64 m1)) (a2 : w.cell? ⟨0, 2, none⟩ = some (.int .u64 m2)) (a3 : w.cell? ⟨0, 3, none⟩ = some (.int .u64 m3)) (a4 : w.cell? ⟨0, 4, none⟩ = some (.int .u64 m4)) (a5 : w.cell? ⟨0, 5, none⟩ = some (.int .u64 m5)) :
    Calls Tryd.prog 10 #[] w fun e w' => e = .returned (.agg #[.int .u64 m0, .int .u64 m1, .int .u64 m2, .int .u64 m3, .int .u64 m4, .int .u64 m5]) ∧ Below w.heap.size w w' := by
  go_enter Tryd.func10, Tryd.ntmps10
  go_wp2
  exact bodyPost_ret (v := .agg #[.int .u64 m0, .int .u64 m1, .int .u64 m2, .int .u64 m3, .int .u64 m4, .int .u64 m5]) (by simp [results, Tryd.results10, go_sem]) rfl ⟨rfl, (Below.refl _ _).alloc (Nat.le_refl _) _⟩

theorem fp {w : World} (G : Gls w) :
    Calls Tryd.prog 10 #[] w fun e w' => e = .returned (.agg #[.int .u64 4294967295, .int .u64 18446744069414584320, .int .u64 18446744073709551614, .int .u64 18446744073709551615, .int .u64 18446744073709551615, .int .u64 18446744073709551615]) ∧ Below w.heap.size w w' :=
  fp_any G.lts.1 G.1.1 G.1.2.1 G.1.2.2.1 G.1.2.2.2.1 G.1.2.2.2.2.1 G.1.2.2.2.2.2
end Go.Proofs.YtflnfjekapngkaaDoor
