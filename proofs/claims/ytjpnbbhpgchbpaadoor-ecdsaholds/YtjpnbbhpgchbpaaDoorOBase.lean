/- The two tables of the field as they lie in memory. order.modulus and order.P: the tables read. order.N: the order. What makes 1 of a number, by Fermat, modulo the order. -/
import Derived.Test.YtjpnbbhpgchbpaaDoorRows
import Derived.Test.YtjpnbbhpgchbpaaDoorBase
import Derived.Test.YtjpnbbhpgchbpaaDoorMath
namespace Go.Proofs.YtjpnbbhpgchbpaaDoor
open Go.RowKit

/-- the order -/
def QQ : Int := 39402006196394479212279040100143613805079739270465446667946905279627659399113263569398956308152294913554433653942643

theorem QQ_v : v64 [17072048233947408755, 6348401684107011962, 14367412456785391071, 18446744073709551615, 18446744073709551615, 18446744073709551615] = QQ := by decide

theorem QQ_pos : 0 < QQ := by decide

theorem QQ_odd : QQ % 2 = 1 := by decide

theorem QQ_lt : QQ < 18446744073709551616 ^ 6 := by decide

theorem QQ_big : 18446744073709551616 ^ 6 ≤ 2 * QQ := by decide

theorem fQ : fits [17072048233947408755, 6348401684107011962, 14367412456785391071, 18446744073709551615, 18446744073709551615, 18446744073709551615] := fits6 (by decide)

theorem fQR : fits [3256554584917936553, 18391999277541532697, 13564358545871743303, 15279949475123764421, 4589268600508278933, 902107514168524577] := fits6 (by decide)

theorem isQ : IsMod [17072048233947408755, 6348401684107011962, 14367412456785391071, 18446744073709551615, 18446744073709551615, 18446744073709551615] 7986114184663260229 [3256554584917936553, 18391999277541532697, 13564358545871743303, 15279949475123764421, 4589268600508278933, 902107514168524577] :=
  ⟨rfl, fQ, rfl, fQR, by decide, by decide, by decide, by rw [QQ_v]; exact QQ_big, by rw [QQ_v]; exact QQ_odd, by decide⟩

/-- the two tables lie where they lay -/
def GlsO (w : World) : Prop := (w.cell? ⟨1, 0, none⟩ = some (.int .u64 17072048233947408755) ∧ w.cell? ⟨1, 1, none⟩ = some (.int .u64 6348401684107011962) ∧ w.cell? ⟨1, 2, none⟩ = some (.int .u64 14367412456785391071) ∧ w.cell? ⟨1, 3, none⟩ = some (.int .u64 18446744073709551615) ∧ w.cell? ⟨1, 4, none⟩ = some (.int .u64 18446744073709551615) ∧ w.cell? ⟨1, 5, none⟩ = some (.int .u64 18446744073709551615)) ∧ (w.cell? ⟨2, 0, none⟩ = some (.int .u64 3256554584917936553) ∧ w.cell? ⟨2, 1, none⟩ = some (.int .u64 18391999277541532697) ∧ w.cell? ⟨2, 2, none⟩ = some (.int .u64 13564358545871743303) ∧ w.cell? ⟨2, 3, none⟩ = some (.int .u64 15279949475123764421) ∧ w.cell? ⟨2, 4, none⟩ = some (.int .u64 4589268600508278933) ∧ w.cell? ⟨2, 5, none⟩ = some (.int .u64 902107514168524577))

theorem GlsO.below {w w' : World} (G : GlsO w) (hb : Below w.heap.size w w') : GlsO w' := by
  obtain ⟨⟨a0, a1, a2, a3, a4, a5⟩, ⟨b0, b1, b2, b3, b4, b5⟩⟩ := G
  exact ⟨⟨cell_later a0 hb, cell_later a1 hb, cell_later a2 hb, cell_later a3 hb, cell_later a4 hb, cell_later a5 hb⟩, ⟨cell_later b0 hb, cell_later b1 hb, cell_later b2 hb, cell_later b3 hb, cell_later b4 hb, cell_later b5 hb⟩⟩

theorem GlsO.lts {w : World} (G : GlsO w) : 1 < w.heap.size ∧ 2 < w.heap.size :=
  ⟨World.block_lt_of_cell? w _ G.1.1, World.block_lt_of_cell? w _ G.2.1⟩
end Go.Proofs.YtjpnbbhpgchbpaaDoor

namespace Go.Proofs.YtjpnbbhpgchbpaaDoor
open Go.RowKit

set_option maxRecDepth 100000 in
set_option maxHeartbeats 400000 in
theorem omod_any {m0 m1 m2 m3 m4 m5 t0 t1 t2 t3 t4 t5 : Int} {w : World} (l0 : 1 < w.heap.size) (l1 : 2 < w.heap.size) (a0 : w.cell? ⟨1, 0, none⟩ = some (.int .u64 m0)) (a1 : w.cell? ⟨1, 1, none⟩ = some (.int .u64 m1)) (a2 : w.cell? ⟨1, 2, none⟩ = some (.int .u64 m2)) (a3 : w.cell? ⟨1, 3, none⟩ = some (.int .u64 m3)) (a4 : w.cell? ⟨1, 4, none⟩ = some (.int .u64 m4)) (a5 : w.cell? ⟨1, 5, none⟩ = some (.int .u64 m5)) (b0 : w.cell? ⟨2, 0, none⟩ = some (.int .u64 t0)) (b1 : w.cell? ⟨2, 1, none⟩ = some (.int .u64 t1)) (b2 : w.cell? ⟨2, 2, none⟩ = some (.int .u64 t2)) (b3 : w.cell? ⟨2, 3, none⟩ = some (.int .u64 t3)) (b4 : w.cell? ⟨2, 4, none⟩ = some (.int .u64 t4)) (b5 : w.cell? ⟨2, 5, none⟩ = some (.int .u64 t5)) :
    Calls Tryd.prog 33 #[] w fun e w' => e = .returned (.agg #[.int .u64 m0, .int .u64 m1, .int .u64 m2, .int .u64 m3, .int .u64 m4, .int .u64 m5, .int .u64 7986114184663260229, .int .u64 t0, .int .u64 t1, .int .u64 t2, .int .u64 t3, .int .u64 t4, .int .u64 t5]) ∧ Below w.heap.size w w' := by
  go_enter Tryd.func33, Tryd.ntmps33
  go_wp2
  exact bodyPost_ret (v := .agg #[.int .u64 m0, .int .u64 m1, .int .u64 m2, .int .u64 m3, .int .u64 m4, .int .u64 m5, .int .u64 7986114184663260229, .int .u64 t0, .int .u64 t1, .int .u64 t2, .int .u64 t3, .int .u64 t4, .int .u64 t5]) (by simp [results, Tryd.results33, go_sem]) rfl ⟨rfl, (Below.refl _ _).alloc (Nat.le_refl _) _⟩

theorem omod {w : World} (G : GlsO w) :
    Calls Tryd.prog 33 #[] w fun e w' => e = .returned (.agg #[.int .u64 17072048233947408755, .int .u64 6348401684107011962, .int .u64 14367412456785391071, .int .u64 18446744073709551615, .int .u64 18446744073709551615, .int .u64 18446744073709551615, .int .u64 7986114184663260229, .int .u64 3256554584917936553, .int .u64 18391999277541532697, .int .u64 13564358545871743303, .int .u64 15279949475123764421, .int .u64 4589268600508278933, .int .u64 902107514168524577]) ∧ Below w.heap.size w w' :=
  omod_any G.lts.1 G.lts.2 G.1.1 G.1.2.1 G.1.2.2.1 G.1.2.2.2.1 G.1.2.2.2.2.1 G.1.2.2.2.2.2 G.2.1 G.2.2.1 G.2.2.2.1 G.2.2.2.2.1 G.2.2.2.2.2.1 G.2.2.2.2.2.2
end Go.Proofs.YtjpnbbhpgchbpaaDoor

namespace Go.Proofs.YtjpnbbhpgchbpaaDoor
open Go.RowKit

theorem on_any {m0 m1 m2 m3 m4 m5 : Int} {w : World} (l0 : 1 < w.heap.size) (a0 : w.cell? ⟨1, 0, none⟩ = some (.int .u64 m0)) (a1 : w.cell? ⟨1, 1, none⟩ = some (.int .u64 m1)) (a2 : w.cell? ⟨1, 2, none⟩ = some (.int .u64 m2)) (a3 : w.cell? ⟨1, 3, none⟩ = some (.int .u64 m3)) (a4 : w.cell? ⟨1, 4, none⟩ = some (.int .u64 m4)) (a5 : w.cell? ⟨1, 5, none⟩ = some (.int .u64 m5)) :
    Calls Tryd.prog 30 #[] w fun e w' => e = .returned (.agg #[.int .u64 m0, .int .u64 m1, .int .u64 m2, .int .u64 m3, .int .u64 m4, .int .u64 m5]) ∧ Below w.heap.size w w' := by
  go_enter Tryd.func30, Tryd.ntmps30
  go_wp2
  exact bodyPost_ret (v := .agg #[.int .u64 m0, .int .u64 m1, .int .u64 m2, .int .u64 m3, .int .u64 m4, .int .u64 m5]) (by simp [results, Tryd.results30, go_sem]) rfl ⟨rfl, (Below.refl _ _).alloc (Nat.le_refl _) _⟩

theorem on6 {w : World} (G : GlsO w) :
    Calls Tryd.prog 30 #[] w fun e w' => e = .returned (.agg #[.int .u64 17072048233947408755, .int .u64 6348401684107011962, .int .u64 14367412456785391071, .int .u64 18446744073709551615, .int .u64 18446744073709551615, .int .u64 18446744073709551615]) ∧ Below w.heap.size w w' :=
  on_any G.lts.1 G.1.1 G.1.2.1 G.1.2.2.1 G.1.2.2.2.1 G.1.2.2.2.2.1 G.1.2.2.2.2.2
end Go.Proofs.YtjpnbbhpgchbpaaDoor

namespace Go.Proofs.YtjpnbbhpgchbpaaDoor

def OutO (a : Int) (e : Nat) (z : Int) : Prop := z = a ^ e % QQ

theorem QQ_nat : QQ = ((39402006196394479212279040100143613805079739270465446667946905279627659399113263569398956308152294913554433653942643 : Nat) : Int) := by decide

theorem oout_inv {x z : Int} (hx : 0 ≤ x) (h : OutO x 39402006196394479212279040100143613805079739270465446667946905279627659399113263569398956308152294913554433653942641 z) : (x % QQ = 0 → z = 0) ∧ (x % QQ ≠ 0 → (x * z) % QQ = 1) := by
  unfold OutO at h
  rw [QQ_nat] at h ⊢
  exact inv_gen pr_N (by decide +kernel) (by decide +kernel) hx h

theorem oout_lt {x z : Int} {e : Nat} (h : OutO x e z) : z < QQ := by
  unfold OutO at h
  rw [h]; exact Int.emod_lt_of_pos _ QQ_pos
end Go.Proofs.YtjpnbbhpgchbpaaDoor
