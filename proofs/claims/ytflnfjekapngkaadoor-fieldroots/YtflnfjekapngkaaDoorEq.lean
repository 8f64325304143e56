/- '==' on arrays of uint64: what it answers. -/
import Derived.Test.YtflnfjekapngkaaDoorBase
import Derived.ChangeKeysEq
namespace Go.Proofs.YtflnfjekapngkaaDoor
open Go.RowKit

theorem drop_head (A : List Int) (j : Nat) (h : j < A.length) : A.drop j = A.getD j 0 :: A.drop (j + 1) := by
  rw [List.drop_eq_getElem_cons h]
  simp [List.getD_eq_getElem?_getD, h]

theorem run_eqItems_us {P : Program} (w : World) (d : Nat) {e : TypeId} (he : P.plainKey e = true) (hu : P.underlying e = some (.int .u64)) (hc : P.cellsOf e = 1) (A B : List Int) (n : Nat) (lA : A.length = n) (lB : B.length = n) :
    ∀ m j, j + m = n → (Op.eqItems (d + 1) e (P.cellsOf e) (us A).toArray (us B).toArray (List.range' j m)).run P w = .ok (decide (A.drop j = B.drop j)) w
  | 0, j, h => by
    have e1 : A.drop j = [] := List.drop_eq_nil_of_le (by omega)
    have e2 : B.drop j = [] := List.drop_eq_nil_of_le (by omega)
    simp [Op.eqItems, e1, e2]
  | m + 1, j, h => by
    have ih := run_eqItems_us w d he hu hc A B n lA lB m (j + 1) (by omega)
    have p1 := run_part_plain (P := P) w he (xs := (us A).toArray) (off := j * P.cellsOf e) (v := .int .u64 (A.getD j 0)) (by rw [hc, Nat.mul_one, List.getElem?_toArray]; exact us_get A j (by omega))
    have p2 := run_part_plain (P := P) w he (xs := (us B).toArray) (off := j * P.cellsOf e) (v := .int .u64 (B.getD j 0)) (by rw [hc, Nat.mul_one, List.getElem?_toArray]; exact us_get B j (by omega))
    have p3 := run_equalIn_int (P := P) w d e .u64 .u64 (A.getD j 0) (B.getD j 0) hu
    rw [List.range'_succ]
    simp only [Op.eqItems, Sem.run_bind, p1, p2, p3, Result.andThen_ok]
    rw [drop_head A j (by omega), drop_head B j (by omega)]
    clear p1 p2 p3
    generalize A.getD j 0 = a
    generalize B.getD j 0 = b
    by_cases hq : a = b
    · simp only [hq, beq_self_eq_true, Bool.not_true, Bool.false_eq_true, if_false, List.cons.injEq, true_and]
      exact ih
    · have : (a == b) = false := by simpa using hq
      simp [this, hq]

theorem run_eql_us {P : Program} (w : World) {t e : TypeId} {n : Nat} {i : TypeInfo} (hp : P.underlying t = some (.array n e)) (hi : P.info? e = some i) (he : P.plainKey e = true) (hu : P.underlying e = some (.int .u64)) (hc : P.cellsOf e = 1) (A B : List Int) (lA : A.length = n) (lB : B.length = n) :
    (Op.equalIn 10000 t (.agg (us A).toArray) (.agg (us B).toArray)).run P w = .ok (decide (A = B)) w := by
  rw [run_equalIn_array w 9999 _ _ hp hi, List.range_eq_range', run_eqItems_us w 9998 he hu hc A B n lA lB n 0 (by omega)]
  simp
end Go.Proofs.YtflnfjekapngkaaDoor
