/- The document's two digits of layer 13. -/
import Derived.Test.YteejcokpkginbabRows
import Derived.Test.YteejcokpkginbabPmCut
import Derived.Deep.OwnRows
import Derived.Deep.WholeRow
namespace Go.Proofs.Yteejcokpkginbab
open Go.RowKit

/-- a number's two digits -/
def twoN (n : Nat) : List Int := [((48 + n / 10 : Nat) : Int), ((48 + n % 10 : Nat) : Int)]

set_option linter.unusedSimpArgs false in
set_option maxRecDepth 100000 in
set_option maxHeartbeats 1000000 in
theorem r13_two {n : Nat} {w : World} (hn : n < 100) :
    Calls Try.prog 30 #[.int .i64 (n : Int)] w fun e w' => ∃ v' : Value, e = .returned v' ∧ Bs w' v' (twoN n) ∧ Below w.heap.size w w' := by
  have t1 : (n : Int).tdiv 10 = ((n / 10 : Nat) : Int) := by rw [Int.tdiv_eq_ediv_of_nonneg (by omega)]; omega
  have t2 : (n : Int).tmod 10 = ((n % 10 : Nat) : Int) := by rw [Int.tmod_eq_emod_of_nonneg (by omega)]; omega
  have t3 : (n : Int) / 10 = ((n / 10 : Nat) : Int) := by omega
  have t4 : (n : Int) % 10 = ((n % 10 : Nat) : Int) := by omega
  have b1 : n / 10 < 10 := by omega
  have b2 : n % 10 < 10 := by omega
  have HT : Hid (twoN n = [((48 + n / 10 : Nat) : Int), ((48 + n % 10 : Nat) : Int)]) := rfl
  obtain ⟨a, ha⟩ : ∃ a, n / 10 = a := ⟨_, rfl⟩
  obtain ⟨c, hc⟩ : ∃ a, n % 10 = a := ⟨_, rfl⟩
  obtain ⟨T, hT⟩ : ∃ T, twoN n = T := ⟨_, rfl⟩
  rw [ha] at t1 t3 b1 HT
  rw [hc] at t2 t4 b2 HT
  rw [hT] at HT
  rw [hT]
  clear ha hc hT
  have g1 : IntKind.i64.wrap (48 + (a : Int)) = ((48 + a : Nat) : Int) := by rw [IntKind.wrap_i64]; omega
  have g2 : IntKind.i64.wrap (48 + (c : Int)) = ((48 + c : Nat) : Int) := by rw [IntKind.wrap_i64]; omega
  have g3 : IntKind.u8.wrap ((48 + a : Nat) : Int) = ((48 + a : Nat) : Int) := by rw [IntKind.wrap_u8]; omega
  have g4 : IntKind.u8.wrap ((48 + c : Nat) : Int) = ((48 + c : Nat) : Int) := by rw [IntKind.wrap_u8]; omega
  obtain ⟨p, hp⟩ : ∃ p : Int, ((48 + a : Nat) : Int) = p := ⟨_, rfl⟩
  obtain ⟨q, hq⟩ : ∃ p : Int, ((48 + c : Nat) : Int) = p := ⟨_, rfl⟩
  rw [hp] at g1 g3 HT
  rw [hq] at g2 g4 HT
  clear hp hq
  have hT := HT.out
  subst hT
  have own := own_made w [.int .u8 p, .int .u8 q] 5 2 w.heap.size rfl (Nat.le_refl _) (by decide)
  have hbl : Below w.heap.size w (w.alloc (.cells #[.int .u8 p, .int .u8 q] 5)) := (Below.refl _ _).alloc (Nat.le_refl _) _
  have bs : Bs (w.alloc (.cells #[.int .u8 p, .int .u8 q] 5)) _ [p, q] := Bs.of_own own
  clear own
  have HBS : Hid _ := bs
  clear bs
  go_enter Try.func30, Try.ntmps30
  go_wp2_with fail
  go_ret
  exact ⟨_, rfl, HBS.out, hbl⟩
end Go.Proofs.Yteejcokpkginbab
