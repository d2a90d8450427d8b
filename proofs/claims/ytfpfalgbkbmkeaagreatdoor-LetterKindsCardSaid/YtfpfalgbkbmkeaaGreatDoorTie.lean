/-
  DERIVED. GIVEN WITH THE SEED: THE PROGRAM's TIES (one call each: nine closed facts by the kernel) AND EACH ROW's TIE, after the 31st guide's Derived/Test/Toyas{Tie, Card}.lean. No idea stands in it: it is a product of the set-up. Laid BY PROGRAM, IN A SANDBOX (cutbox-door.mjs). By AI agents, Wed Nov 11 2026. No macro, syntax, notation, axiom, sorry.
-/
import Derived.Test.YtfpfalgbkbmkeaaGreatDoorRows
import Derived.LaidByTextLater
import Derived.SevenTiedAt
import Derived.LaidSub
import Derived.LaidOnce
namespace Go.Proofs.YtfpfalgbkbmkeaaGreatDoor
open Go
set_option maxRecDepth 100000
theorem seatTie1 : Tryz.prog.laidByTextLater [("errors.errorType", Rows.laid_errors_errorType), ("spinney/frame.fourBits", Rows.laid_spinney_frame_fourBits), ("spinney/pack.errShort", Rows.laid_spinney_pack_errShort)] [.handle, .data, .sentinel] true :=
  Program.laidByTextLater_by_one 40 8 17 (by kernel_rfl) (by kernel_rfl) (by kernel_rfl) (by kernel_rfl) (by kernel_rfl) (by kernel_rfl) (fun _ _ => by kernel_rfl)
theorem noOwnUnsafe : Tryz.pinned.checked.prog.headLifts.contains "ownunsafe" = false := by kernel_rfl
theorem tie : Tryz.prog.laidByTextLater [("errors.errorType", Rows.laid_errors_errorType), ("spinney/frame.fourBits", Rows.laid_spinney_frame_fourBits), ("spinney/pack.errShort", Rows.laid_spinney_pack_errShort)] [.handle, .data, .sentinel] true :=
  Program.laidByTextLater.sub seatTie1 ["errors.errorType", "spinney/frame.fourBits", "spinney/pack.errShort"] (by kernel_rfl) (by kernel_rfl)
theorem letterWrites_row_tie : Rows.letterWritesRow.laidByTextAt .later Tryz.pinned [.handle, .data, .sentinel] true :=
  OpenClaim.laidByTextAt_later rfl rfl tie noOwnUnsafe
theorem letterReads_row_tie : Rows.letterReadsRow.laidByTextAt .later Tryz.pinned [.handle, .data, .sentinel] true :=
  OpenClaim.laidByTextAt_later rfl rfl tie noOwnUnsafe
theorem letterTurned_row_tie : Rows.letterTurnedRow.laidByTextAt .later Tryz.pinned [.handle, .data, .sentinel] true :=
  OpenClaim.laidByTextAt_later rfl rfl tie noOwnUnsafe
theorem tie2 : Tryz.prog.laidByTextLater [("errors.errorType", Rows.laid_errors_errorType), ("spinney/frame.fourBits", Rows.laid_spinney_frame_fourBits)] [.handle, .data] true :=
  Program.laidByTextLater.sub seatTie1 ["errors.errorType", "spinney/frame.fourBits"] (by kernel_rfl) (by kernel_rfl)
theorem letterKinds_row_tie : Rows.letterKindsRow.laidByTextAt .later Tryz.pinned [.handle, .data] true :=
  OpenClaim.laidByTextAt_later rfl rfl tie2 noOwnUnsafe
theorem letterWritesUpto_row_tie : Rows.letterWritesUptoRow.laidByTextAt .later Tryz.pinned [.handle, .data, .sentinel] true :=
  OpenClaim.laidByTextAt_later rfl rfl tie noOwnUnsafe
theorem letterReadsUpto_row_tie : Rows.letterReadsUptoRow.laidByTextAt .later Tryz.pinned [.handle, .data, .sentinel] true :=
  OpenClaim.laidByTextAt_later rfl rfl tie noOwnUnsafe
theorem letterTurnedUpto_row_tie : Rows.letterTurnedUptoRow.laidByTextAt .later Tryz.pinned [.handle, .data, .sentinel] true :=
  OpenClaim.laidByTextAt_later rfl rfl tie noOwnUnsafe
theorem letterKindsUpto_row_tie : Rows.letterKindsUptoRow.laidByTextAt .later Tryz.pinned [.handle, .data] true :=
  OpenClaim.laidByTextAt_later rfl rfl tie2 noOwnUnsafe
end Go.Proofs.YtfpfalgbkbmkeaaGreatDoor
