/- The two tables of the field as they lie in memory. field.modulus and field.P: the tables read. Powers that are kept times R, modulo the prime: plain facts on numbers. What makes 1 of a number, by Fermat: plain facts on numbers. -/
import Derived.Test.YtjpnbbhpgchbpaaDoorRows
import Derived.Test.YtjpnbbhpgchbpaaDoorBase
import Derived.Test.YtjpnbbhpgchbpaaDoorMath
namespace Go.Proofs.YtjpnbbhpgchbpaaDoor
open Go.RowKit

/-- the two tables lie where they lay -/
def Gls (w : World) : Prop := (w.cell? ⟨4, 0, none⟩ = some (.int .u64 4294967295) ∧ w.cell? ⟨4, 1, none⟩ = some (.int .u64 18446744069414584320) ∧ w.cell? ⟨4, 2, none⟩ = some (.int .u64 18446744073709551614) ∧ w.cell? ⟨4, 3, none⟩ = some (.int .u64 18446744073709551615) ∧ w.cell? ⟨4, 4, none⟩ = some (.int .u64 18446744073709551615) ∧ w.cell? ⟨4, 5, none⟩ = some (.int .u64 18446744073709551615)) ∧ (w.cell? ⟨5, 0, none⟩ = some (.int .u64 18446744065119617025) ∧ w.cell? ⟨5, 1, none⟩ = some (.int .u64 8589934592) ∧ w.cell? ⟨5, 2, none⟩ = some (.int .u64 18446744065119617024) ∧ w.cell? ⟨5, 3, none⟩ = some (.int .u64 8589934592) ∧ w.cell? ⟨5, 4, none⟩ = some (.int .u64 1) ∧ w.cell? ⟨5, 5, none⟩ = some (.int .u64 0))

theorem Gls.below {w w' : World} (G : Gls w) (hb : Below w.heap.size w w') : Gls w' := by
  obtain ⟨⟨a0, a1, a2, a3, a4, a5⟩, ⟨b0, b1, b2, b3, b4, b5⟩⟩ := G
  exact ⟨⟨cell_later a0 hb, cell_later a1 hb, cell_later a2 hb, cell_later a3 hb, cell_later a4 hb, cell_later a5 hb⟩, ⟨cell_later b0 hb, cell_later b1 hb, cell_later b2 hb, cell_later b3 hb, cell_later b4 hb, cell_later b5 hb⟩⟩

theorem Gls.lts {w : World} (G : Gls w) : 4 < w.heap.size ∧ 5 < w.heap.size :=
  ⟨World.block_lt_of_cell? w _ G.1.1, World.block_lt_of_cell? w _ G.2.1⟩
end Go.Proofs.YtjpnbbhpgchbpaaDoor

namespace Go.Proofs.YtjpnbbhpgchbpaaDoor
open Go.RowKit

set_option maxRecDepth 100000 in
set_option maxHeartbeats 400000 in
theorem fmod_any {m0 m1 m2 m3 m4 m5 t0 t1 t2 t3 t4 t5 : Int} {w : World} (l0 : 4 < w.heap.size) (l1 : 5 < w.heap.size) (a0 : w.cell? ⟨4, 0, none⟩ = some (.int .u64 m0)) (a1 : w.cell? ⟨4, 1, none⟩ = some (.int .u64 m1)) (a2 : w.cell? ⟨4, 2, none⟩ = some (.int .u64 m2)) (a3 : w.cell? ⟨4, 3, none⟩ = some (.int .u64 m3)) (a4 : w.cell? ⟨4, 4, none⟩ = some (.int .u64 m4)) (a5 : w.cell? ⟨4, 5, none⟩ = some (.int .u64 m5)) (b0 : w.cell? ⟨5, 0, none⟩ = some (.int .u64 t0)) (b1 : w.cell? ⟨5, 1, none⟩ = some (.int .u64 t1)) (b2 : w.cell? ⟨5, 2, none⟩ = some (.int .u64 t2)) (b3 : w.cell? ⟨5, 3, none⟩ = some (.int .u64 t3)) (b4 : w.cell? ⟨5, 4, none⟩ = some (.int .u64 t4)) (b5 : w.cell? ⟨5, 5, none⟩ = some (.int .u64 t5)) :
    Calls Tryd.prog 62 #[] w fun e w' => e = .returned (.agg #[.int .u64 m0, .int .u64 m1, .int .u64 m2, .int .u64 m3, .int .u64 m4, .int .u64 m5, .int .u64 4294967297, .int .u64 t0, .int .u64 t1, .int .u64 t2, .int .u64 t3, .int .u64 t4, .int .u64 t5]) ∧ Below w.heap.size w w' := by
  go_enter Tryd.func62, Tryd.ntmps62
  go_wp2
  exact bodyPost_ret (v := .agg #[.int .u64 m0, .int .u64 m1, .int .u64 m2, .int .u64 m3, .int .u64 m4, .int .u64 m5, .int .u64 4294967297, .int .u64 t0, .int .u64 t1, .int .u64 t2, .int .u64 t3, .int .u64 t4, .int .u64 t5]) (by simp [results, Tryd.results62, go_sem]) rfl ⟨rfl, (Below.refl _ _).alloc (Nat.le_refl _) _⟩

theorem fmod {w : World} (G : Gls w) :
    Calls Tryd.prog 62 #[] w fun e w' => e = .returned (.agg #[.int .u64 4294967295, .int .u64 18446744069414584320, .int .u64 18446744073709551614, .int .u64 18446744073709551615, .int .u64 18446744073709551615, .int .u64 18446744073709551615, .int .u64 4294967297, .int .u64 18446744065119617025, .int .u64 8589934592, .int .u64 18446744065119617024, .int .u64 8589934592, .int .u64 1, .int .u64 0]) ∧ Below w.heap.size w w' :=
  fmod_any G.lts.1 G.lts.2 G.1.1 G.1.2.1 G.1.2.2.1 G.1.2.2.2.1 G.1.2.2.2.2.1 G.1.2.2.2.2.2 G.2.1 G.2.2.1 G.2.2.2.1 G.2.2.2.2.1 G.2.2.2.2.2.1 G.2.2.2.2.2.2

theorem fp_any {m0 m1 m2 m3 m4 m5 : Int} {w : World} (l0 : 4 < w.heap.size) (a0 : w.cell? ⟨4, 0, none⟩ = some (.int .u64 m0)) (a1 : w.cell? ⟨4, 1, none⟩ = some (.int .u64 m1)) (a2 : w.cell? ⟨4, 2, none⟩ = some (.int .u64 m2)) (a3 : w.cell? ⟨4, 3, none⟩ = some (.int .u64 m3)) (a4 : w.cell? ⟨4, 4, none⟩ = some (.int .u64 m4)) (a5 : w.cell? ⟨4, 5, none⟩ = some (.int .u64 m5)) :
    Calls Tryd.prog 50 #[] w fun e w' => e = .returned (.agg #[.int .u64 m0, .int .u64 m1, .int .u64 m2, .int .u64 m3, .int .u64 m4, .int .u64 m5]) ∧ Below w.heap.size w w' := by
  go_enter Tryd.func50, Tryd.ntmps50
  go_wp2
  exact bodyPost_ret (v := .agg #[.int .u64 m0, .int .u64 m1, .int .u64 m2, .int .u64 m3, .int .u64 m4, .int .u64 m5]) (by simp [results, Tryd.results50, go_sem]) rfl ⟨rfl, (Below.refl _ _).alloc (Nat.le_refl _) _⟩

theorem fp {w : World} (G : Gls w) :
    Calls Tryd.prog 50 #[] w fun e w' => e = .returned (.agg #[.int .u64 4294967295, .int .u64 18446744069414584320, .int .u64 18446744073709551614, .int .u64 18446744073709551615, .int .u64 18446744073709551615, .int .u64 18446744073709551615]) ∧ Below w.heap.size w w' :=
  fp_any G.lts.1 G.1.1 G.1.2.1 G.1.2.2.1 G.1.2.2.2.1 G.1.2.2.2.2.1 G.1.2.2.2.2.2
end Go.Proofs.YtjpnbbhpgchbpaaDoor

namespace Go.Proofs.YtjpnbbhpgchbpaaDoor

/-- x is a's power e, times R -/
def Mo (a : Int) (e : Nat) (x : Int) : Prop := 0 ≤ x ∧ x < PP ∧ x % PP = (a ^ e * 18446744073709551616 ^ 6) % PP

/-- z is the rest of a's power e -/
def Out (a : Int) (e : Nat) (z : Int) : Prop := z = a ^ e % PP

theorem mo_mul {a x y z : Int} {e f : Nat} (hx : Mo a e x) (hy : Mo a f y) (h0 : 0 ≤ z) (h1 : z < PP) (h : (18446744073709551616 ^ 6 * z) % PP = (x * y) % PP) : Mo a (e + f) z := by
  refine ⟨h0, h1, ?_⟩
  refine cut_R PP_odd ?_
  rw [h, Int.mul_emod, hx.2.2, hy.2.2, ← Int.mul_emod, Int.pow_add]
  generalize (18446744073709551616 : Int) ^ 6 = R
  congr 1
  grind

theorem mo_one {a t z : Int} (ht : t = (18446744073709551616 ^ 6 * 18446744073709551616 ^ 6) % PP) (h0 : 0 ≤ z) (h1 : z < PP) (h : (18446744073709551616 ^ 6 * z) % PP = (a * t) % PP) : Mo a 1 z := by
  refine ⟨h0, h1, ?_⟩
  refine cut_R PP_odd ?_
  rw [h, ht, Int.mul_emod, Int.emod_emod, ← Int.mul_emod, Int.pow_one]
  generalize (18446744073709551616 : Int) ^ 6 = R
  congr 1
  grind

theorem mo_out {a x z : Int} {e : Nat} (hx : Mo a e x) (h0 : 0 ≤ z) (h1 : z < PP) (h : (18446744073709551616 ^ 6 * z) % PP = (x * 1) % PP) : Out a e z := by
  unfold Out
  rw [← Int.emod_eq_of_lt h0 h1]
  refine cut_R PP_odd ?_
  rw [h, Int.mul_one, hx.2.2, Int.mul_comm]

theorem mo_sq {a x : Int} {e k : Nat} (h : Mo a (e * 2 ^ k + e * 2 ^ k) x) : Mo a (e * 2 ^ (k + 1)) x := by
  have : e * 2 ^ (k + 1) = e * 2 ^ k + e * 2 ^ k := by rw [Nat.pow_succ, ← Nat.mul_assoc]; omega
  rw [this]; exact h
end Go.Proofs.YtjpnbbhpgchbpaaDoor

namespace Go.Proofs.YtjpnbbhpgchbpaaDoor

theorem PP_nat : PP = ((39402006196394479212279040100143613805079739270465446667948293404245721771496870329047266088258938001861606973112319 : Nat) : Int) := by decide

theorem out_inv {x z : Int} (hx : 0 ≤ x) (h : Out x 39402006196394479212279040100143613805079739270465446667948293404245721771496870329047266088258938001861606973112317 z) : (x % PP = 0 → z = 0) ∧ (x % PP ≠ 0 → (x * z) % PP = 1) := by
  unfold Out at h
  rw [PP_nat] at h ⊢
  exact inv_gen pr_P (by decide +kernel) (by decide +kernel) hx h

theorem out_lt {x z : Int} {e : Nat} (h : Out x e z) : z < PP := by
  unfold Out at h
  rw [h]; exact Int.emod_lt_of_pos _ PP_pos
end Go.Proofs.YtjpnbbhpgchbpaaDoor
