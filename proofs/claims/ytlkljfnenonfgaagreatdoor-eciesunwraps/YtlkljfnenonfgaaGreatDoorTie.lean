/-
  DERIVED. GIVEN WITH THE SEED: THE PROGRAM's TIES (one call each: nine closed facts by the kernel) AND EACH ROW's TIE, after the 31st guide's Derived/Test/Toyas{Tie, Card}.lean. No idea stands in it: it is a product of the set-up. Laid BY PROGRAM, IN A SANDBOX (cutbox-door.mjs). By AI agents, Wed Nov 11 2026. No macro, syntax, notation, axiom, sorry.
-/
import Derived.Test.YtlkljfnenonfgaaGreatDoorRows
import Derived.LaidByTextLater
import Derived.SevenTiedAt
import Derived.LaidSub
import Derived.LaidOnce
namespace Go.Proofs.YtlkljfnenonfgaaGreatDoor
open Go
set_option maxRecDepth 100000
theorem seatTie1 : Tryz.prog.laidByTextLater [("errors.errorType", Rows.laid_errors_errorType), ("escutcheon/field.prime", Rows.laid_escutcheon_field_prime), ("escutcheon/field.squareOfR", Rows.laid_escutcheon_field_squareOfR), ("escutcheon/curve.constant", Rows.laid_escutcheon_curve_constant), ("escutcheon/curve.base", Rows.laid_escutcheon_curve_base), ("escutcheon/order.points", Rows.laid_escutcheon_order_points), ("escutcheon/order.squareOfR", Rows.laid_escutcheon_order_squareOfR), ("escutcheon/sha.constants", Rows.laid_escutcheon_sha_constants), ("escutcheon/sha.atFirst", Rows.laid_escutcheon_sha_atFirst)] [.handle, .data, .data, .data, .data, .data, .data, .data, .data] true :=
  Program.laidByTextLater_by_one 58 8 81 (by kernel_rfl) (by kernel_rfl) (by kernel_rfl) (by kernel_rfl) (by kernel_rfl) (by kernel_rfl) (fun _ _ => by kernel_rfl)
theorem noOwnUnsafe : Tryz.pinned.checked.prog.headLifts.contains "ownunsafe" = false := by kernel_rfl
theorem tie : Tryz.prog.laidByTextLater [("escutcheon/field.prime", Rows.laid_escutcheon_field_prime), ("escutcheon/field.squareOfR", Rows.laid_escutcheon_field_squareOfR), ("escutcheon/curve.constant", Rows.laid_escutcheon_curve_constant), ("escutcheon/curve.base", Rows.laid_escutcheon_curve_base), ("escutcheon/order.points", Rows.laid_escutcheon_order_points), ("escutcheon/order.squareOfR", Rows.laid_escutcheon_order_squareOfR), ("escutcheon/sha.constants", Rows.laid_escutcheon_sha_constants), ("escutcheon/sha.atFirst", Rows.laid_escutcheon_sha_atFirst)] [.data, .data, .data, .data, .data, .data, .data, .data] true :=
  Program.laidByTextLater.sub seatTie1 ["escutcheon/field.prime", "escutcheon/field.squareOfR", "escutcheon/curve.constant", "escutcheon/curve.base", "escutcheon/order.points", "escutcheon/order.squareOfR", "escutcheon/sha.constants", "escutcheon/sha.atFirst"] (by kernel_rfl) (by kernel_rfl)
theorem eciesWraps_row_tie : Rows.eciesWrapsRow.laidByTextAt .later Tryz.pinned [.data, .data, .data, .data, .data, .data, .data, .data] true :=
  OpenClaim.laidByTextAt_later rfl rfl tie noOwnUnsafe
theorem eciesBack_row_tie : Rows.eciesBackRow.laidByTextAt .later Tryz.pinned [.data, .data, .data, .data, .data, .data, .data, .data] true :=
  OpenClaim.laidByTextAt_later rfl rfl tie noOwnUnsafe
theorem tie2 : Tryz.prog.laidByTextLater [("errors.errorType", Rows.laid_errors_errorType), ("escutcheon/field.prime", Rows.laid_escutcheon_field_prime), ("escutcheon/field.squareOfR", Rows.laid_escutcheon_field_squareOfR), ("escutcheon/curve.constant", Rows.laid_escutcheon_curve_constant), ("escutcheon/curve.base", Rows.laid_escutcheon_curve_base), ("escutcheon/order.points", Rows.laid_escutcheon_order_points), ("escutcheon/order.squareOfR", Rows.laid_escutcheon_order_squareOfR), ("escutcheon/sha.constants", Rows.laid_escutcheon_sha_constants), ("escutcheon/sha.atFirst", Rows.laid_escutcheon_sha_atFirst)] [.handle, .data, .data, .data, .data, .data, .data, .data, .data] true :=
  Program.laidByTextLater.sub seatTie1 ["errors.errorType", "escutcheon/field.prime", "escutcheon/field.squareOfR", "escutcheon/curve.constant", "escutcheon/curve.base", "escutcheon/order.points", "escutcheon/order.squareOfR", "escutcheon/sha.constants", "escutcheon/sha.atFirst"] (by kernel_rfl) (by kernel_rfl)
theorem eciesUnwraps_row_tie : Rows.eciesUnwrapsRow.laidByTextAt .later Tryz.pinned [.handle, .data, .data, .data, .data, .data, .data, .data, .data] true :=
  OpenClaim.laidByTextAt_later rfl rfl tie2 noOwnUnsafe
theorem eciesWrapsUpto_row_tie : Rows.eciesWrapsUptoRow.laidByTextAt .later Tryz.pinned [.data, .data, .data, .data, .data, .data, .data, .data] true :=
  OpenClaim.laidByTextAt_later rfl rfl tie noOwnUnsafe
theorem eciesUnwrapsUpto_row_tie : Rows.eciesUnwrapsUptoRow.laidByTextAt .later Tryz.pinned [.handle, .data, .data, .data, .data, .data, .data, .data, .data] true :=
  OpenClaim.laidByTextAt_later rfl rfl tie2 noOwnUnsafe
theorem eciesBackUpto_row_tie : Rows.eciesBackUptoRow.laidByTextAt .later Tryz.pinned [.data, .data, .data, .data, .data, .data, .data, .data] true :=
  OpenClaim.laidByTextAt_later rfl rfl tie noOwnUnsafe
end Go.Proofs.YtlkljfnenonfgaaGreatDoor
