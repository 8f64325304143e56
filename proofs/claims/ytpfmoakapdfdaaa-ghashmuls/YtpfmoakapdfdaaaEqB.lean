/- '==' on arrays of bytes: what it answers. -/
import Derived.Test.YtpfmoakapdfdaaaRows
import Derived.Test.YtpfmoakapdfdaaaFrom
import Derived.ChangeKeysEq
namespace Go.Proofs.Ytpfmoakapdfdaaa
open Go.RowKit

theorem drop_headb (A : List Int) (j : Nat) (h : j < A.length) : A.drop j = A.getD j 0 :: A.drop (j + 1) := by
  rw [List.drop_eq_getElem_cons h]
  simp [List.getD_eq_getElem?_getD, h]

theorem run_eqItems_b {P : Program} (w : World) (d : Nat) {e : TypeId} (he : P.plainKey e = true) (hu : P.underlying e = some (.int .u8)) (hc : P.cellsOf e = 1) (A B : List Int) (n : Nat) (lA : A.length = n) (lB : B.length = n) :
    ∀ m j, j + m = n → (Op.eqItems (d + 1) e (P.cellsOf e) (u8s A).toArray (u8s B).toArray (List.range' j m)).run P w = .ok (decide (A.drop j = B.drop j)) w
  | 0, j, h => by
    have e1 : A.drop j = [] := List.drop_eq_nil_of_le (by omega)
    have e2 : B.drop j = [] := List.drop_eq_nil_of_le (by omega)
    simp [Op.eqItems, e1, e2]
  | m + 1, j, h => by
    have ih := run_eqItems_b w d he hu hc A B n lA lB m (j + 1) (by omega)
    have p1 := run_part_plain (P := P) w he (xs := (u8s A).toArray) (off := j * P.cellsOf e) (v := .int .u8 (A.getD j 0)) (by rw [hc, Nat.mul_one, List.getElem?_toArray]; exact u8s_get A j (by omega))
    have p2 := run_part_plain (P := P) w he (xs := (u8s B).toArray) (off := j * P.cellsOf e) (v := .int .u8 (B.getD j 0)) (by rw [hc, Nat.mul_one, List.getElem?_toArray]; exact u8s_get B j (by omega))
    have p3 := run_equalIn_int (P := P) w d e .u8 .u8 (A.getD j 0) (B.getD j 0) hu
    rw [List.range'_succ]
    simp only [Op.eqItems, Sem.run_bind, p1, p2, p3, Result.andThen_ok]
    rw [drop_headb A j (by omega), drop_headb B j (by omega)]
    clear p1 p2 p3
    generalize A.getD j 0 = a
    generalize B.getD j 0 = b
    by_cases hq : a = b
    · simp only [hq, beq_self_eq_true, Bool.not_true, Bool.false_eq_true, if_false, List.cons.injEq, true_and]
      exact ih
    · have : (a == b) = false := by simpa using hq
      simp [this, hq]

theorem run_eql_b {P : Program} (w : World) {t e : TypeId} {n : Nat} {i : TypeInfo} (hp : P.underlying t = some (.array n e)) (hi : P.info? e = some i) (he : P.plainKey e = true) (hu : P.underlying e = some (.int .u8)) (hc : P.cellsOf e = 1) (A B : List Int) (lA : A.length = n) (lB : B.length = n) :
    (Op.equalIn 10000 t (.agg (u8s A).toArray) (.agg (u8s B).toArray)).run P w = .ok (decide (A = B)) w := by
  rw [run_equalIn_array w 9999 _ _ hp hi, List.range_eq_range', run_eqItems_b w 9998 he hu hc A B n lA lB n 0 (by omega)]
  simp
theorem run_eql_bd {P : Program} (w : World) (d : Nat) {t e : TypeId} {n : Nat} {i : TypeInfo} (hp : P.underlying t = some (.array n e)) (hi : P.info? e = some i) (he : P.plainKey e = true) (hu : P.underlying e = some (.int .u8)) (hc : P.cellsOf e = 1) (A B : List Int) (lA : A.length = n) (lB : B.length = n) :
    (Op.equalIn (d + 2) t (.agg (u8s A).toArray) (.agg (u8s B).toArray)).run P w = .ok (decide (A = B)) w := by
  rw [run_equalIn_array w (d + 1) _ _ hp hi, List.range_eq_range', run_eqItems_b w d he hu hc A B n lA lB n 0 (by omega)]
  simp

theorem info_bE : (Try.prog.info? 5).map (fun i => (i.zero, i.size, i.bytes)) = some (some (.int .u8 0), 1, 1) := by kernel_rfl
theorem eql_16 {A B : List Int} (la : A.length = 16) (lb : B.length = 16) : ∀ w : World, (Op.equalIn 10000 22 (.agg (u8s A).toArray) (.agg (u8s B).toArray)).run Try.prog w = .ok (decide (A = B)) w := fun w => by
  cases hi : Try.prog.info? 5 with
  | none => have := info_bE; rw [hi] at this; simp at this
  | some i => exact run_eql_b (P := Try.prog) w (t := 22) (e := 5) (n := 16) Try.underlying22 hi (by kernel_rfl) Try.underlying5 (by kernel_rfl) A B la lb
end Go.Proofs.Ytpfmoakapdfdaaa
