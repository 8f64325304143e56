/-
  DERIVED. GIVEN WITH THE SEED: THE PROGRAM's TIES (one call each: nine closed facts by the kernel) AND EACH ROW's TIE, after the 31st guide's Derived/Test/Toyas{Tie, Card}.lean. No idea stands in it: it is a product of the set-up. Laid BY PROGRAM, IN A SANDBOX (cutbox-door.mjs). By AI agents, Wed Nov 11 2026. No macro, syntax, notation, axiom, sorry.
-/
import Derived.Test.YtjpnbbhpgchbpaaDoorRows
import Derived.LaidByTextLater
import Derived.SevenTiedAt
import Derived.LaidSub
import Derived.LaidOnce
namespace Go.Proofs.YtjpnbbhpgchbpaaDoor
open Go
set_option maxRecDepth 100000
theorem seatTie1 : Tryd.prog.laidByTextLater [("escutcheon/field.prime", Rows.laid_escutcheon_field_prime), ("escutcheon/field.squareOfR", Rows.laid_escutcheon_field_squareOfR), ("escutcheon/curve.constant", Rows.laid_escutcheon_curve_constant), ("escutcheon/curve.base", Rows.laid_escutcheon_curve_base), ("escutcheon/order.points", Rows.laid_escutcheon_order_points), ("escutcheon/order.squareOfR", Rows.laid_escutcheon_order_squareOfR)] [.data, .data, .data, .data, .data, .data] true :=
  Program.laidByTextLater_by_one 41 8 14 (by kernel_rfl) (by kernel_rfl) (by kernel_rfl) (by kernel_rfl) (by kernel_rfl) (by kernel_rfl) (fun _ _ => by kernel_rfl)
theorem noOwnUnsafe : Tryd.pinned.checked.prog.headLifts.contains "ownunsafe" = false := by kernel_rfl
theorem tie : Tryd.prog.laidByTextLater [("escutcheon/field.prime", Rows.laid_escutcheon_field_prime), ("escutcheon/field.squareOfR", Rows.laid_escutcheon_field_squareOfR), ("escutcheon/curve.constant", Rows.laid_escutcheon_curve_constant), ("escutcheon/curve.base", Rows.laid_escutcheon_curve_base), ("escutcheon/order.points", Rows.laid_escutcheon_order_points), ("escutcheon/order.squareOfR", Rows.laid_escutcheon_order_squareOfR)] [.data, .data, .data, .data, .data, .data] true :=
  Program.laidByTextLater.sub seatTie1 ["escutcheon/field.prime", "escutcheon/field.squareOfR", "escutcheon/curve.constant", "escutcheon/curve.base", "escutcheon/order.points", "escutcheon/order.squareOfR"] (by kernel_rfl) (by kernel_rfl)
theorem ecdsaHolds_row_tie : Rows.ecdsaHoldsRow.laidByTextAt .later Tryd.pinned [.data, .data, .data, .data, .data, .data] true :=
  OpenClaim.laidByTextAt_later rfl rfl tie noOwnUnsafe
theorem ecdsaHoldsUpto_row_tie : Rows.ecdsaHoldsUptoRow.laidByTextAt .later Tryd.pinned [.data, .data, .data, .data, .data, .data] true :=
  OpenClaim.laidByTextAt_later rfl rfl tie noOwnUnsafe
end Go.Proofs.YtjpnbbhpgchbpaaDoor
