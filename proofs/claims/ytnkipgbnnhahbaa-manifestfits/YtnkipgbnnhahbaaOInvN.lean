/- What makes 1 of a number, by Fermat, modulo the order. -/
import Derived.Test.YtnkipgbnnhahbaaOBasePl
import Derived.Test.YtnkipgbnnhahbaaPrimeN
import Derived.Test.YtnkipgbnnhahbaaInvN
namespace Go.Proofs.Ytnkipgbnnhahbaa
def OutO (a : Int) (e : Nat) (z : Int) : Prop := z = a ^ e % QQ
theorem QQ_nat : QQ = ((39402006196394479212279040100143613805079739270465446667946905279627659399113263569398956308152294913554433653942643 : Nat) : Int) := by decide
theorem oout_inv {x z : Int} (hx : 0 ≤ x) (h : OutO x 39402006196394479212279040100143613805079739270465446667946905279627659399113263569398956308152294913554433653942641 z) : (x % QQ = 0 → z = 0) ∧ (x % QQ ≠ 0 → (x * z) % QQ = 1) := by
  unfold OutO at h
  rw [QQ_nat] at h ⊢
  exact inv_gen pr_N (by decide +kernel) (by decide +kernel) hx h
theorem oout_lt {x z : Int} {e : Nat} (h : OutO x e z) : z < QQ := by
  unfold OutO at h
  rw [h]; exact Int.emod_lt_of_pos _ QQ_pos
end Go.Proofs.Ytnkipgbnnhahbaa
