/-
  DERIVED. GIVEN WITH THE SEED: THE PROGRAM's TIES (one call each: nine closed facts by the kernel) AND EACH ROW's TIE, after the 31st guide's Derived/Test/Toyas{Tie, Card}.lean. No idea stands in it: it is a product of the set-up. Laid BY PROGRAM, IN A SANDBOX (cutbox-door.mjs). By AI agents, Wed Nov 11 2026. No macro, syntax, notation, axiom, sorry.
-/
import Derived.Test.YtdhcigiaidlmbaaGreatDoorRows
import Derived.LaidByTextLater
import Derived.SevenTiedAt
import Derived.LaidSub
import Derived.LaidOnce
namespace Go.Proofs.YtdhcigiaidlmbaaGreatDoor
open Go
set_option maxRecDepth 100000
theorem seatTie1 : Tryz.prog.laidByTextLater [("shale/crc.halves", Rows.laid_shale_crc_halves), ("shale/api.ErrField", Rows.laid_shale_api_ErrField), ("shale/api.ErrNumber", Rows.laid_shale_api_ErrNumber), ("shale/api.ErrZero", Rows.laid_shale_api_ErrZero), ("shale/api.ErrLong", Rows.laid_shale_api_ErrLong), ("shale/api.ErrCode", Rows.laid_shale_api_ErrCode), ("shale/api.ErrMany", Rows.laid_shale_api_ErrMany), ("shale/api.ErrRecord", Rows.laid_shale_api_ErrRecord), ("shale/api.ErrGeometry", Rows.laid_shale_api_ErrGeometry), ("shale/api.ErrDead", Rows.laid_shale_api_ErrDead), ("shale/api.ErrOrder", Rows.laid_shale_api_ErrOrder), ("shale/api.ErrFailed", Rows.laid_shale_api_ErrFailed), ("shale/api.ErrBad", Rows.laid_shale_api_ErrBad), ("shale/api.ErrPage", Rows.laid_shale_api_ErrPage), ("shale/api.ErrFull", Rows.laid_shale_api_ErrFull), ("shale/api.ErrGone", Rows.laid_shale_api_ErrGone), ("shale/api.ErrSize", Rows.laid_shale_api_ErrSize), ("shale/api.ErrReadOnly", Rows.laid_shale_api_ErrReadOnly), ("shale/api.ErrStep", Rows.laid_shale_api_ErrStep), ("shale/api.ErrMount", Rows.laid_shale_api_ErrMount)] [.data, .sentinel, .sentinel, .sentinel, .sentinel, .sentinel, .sentinel, .sentinel, .sentinel, .sentinel, .sentinel, .sentinel, .sentinel, .sentinel, .sentinel, .sentinel, .sentinel, .sentinel, .sentinel, .sentinel] true :=
  Program.laidByTextLater_by_one 375 8 17 (by kernel_rfl) (by kernel_rfl) (by kernel_rfl) (by kernel_rfl) (by kernel_rfl) (by kernel_rfl) (fun _ _ => by kernel_rfl)
theorem noOwnUnsafe : Tryz.pinned.checked.prog.headLifts.contains "ownunsafe" = false := by kernel_rfl
theorem tie : Tryz.prog.laidByTextLater [("shale/crc.halves", Rows.laid_shale_crc_halves), ("shale/api.ErrField", Rows.laid_shale_api_ErrField), ("shale/api.ErrNumber", Rows.laid_shale_api_ErrNumber), ("shale/api.ErrZero", Rows.laid_shale_api_ErrZero), ("shale/api.ErrLong", Rows.laid_shale_api_ErrLong), ("shale/api.ErrCode", Rows.laid_shale_api_ErrCode), ("shale/api.ErrMany", Rows.laid_shale_api_ErrMany), ("shale/api.ErrRecord", Rows.laid_shale_api_ErrRecord), ("shale/api.ErrGeometry", Rows.laid_shale_api_ErrGeometry), ("shale/api.ErrDead", Rows.laid_shale_api_ErrDead), ("shale/api.ErrOrder", Rows.laid_shale_api_ErrOrder), ("shale/api.ErrFailed", Rows.laid_shale_api_ErrFailed), ("shale/api.ErrBad", Rows.laid_shale_api_ErrBad), ("shale/api.ErrPage", Rows.laid_shale_api_ErrPage), ("shale/api.ErrFull", Rows.laid_shale_api_ErrFull), ("shale/api.ErrGone", Rows.laid_shale_api_ErrGone), ("shale/api.ErrSize", Rows.laid_shale_api_ErrSize), ("shale/api.ErrReadOnly", Rows.laid_shale_api_ErrReadOnly), ("shale/api.ErrStep", Rows.laid_shale_api_ErrStep), ("shale/api.ErrMount", Rows.laid_shale_api_ErrMount)] [.data, .sentinel, .sentinel, .sentinel, .sentinel, .sentinel, .sentinel, .sentinel, .sentinel, .sentinel, .sentinel, .sentinel, .sentinel, .sentinel, .sentinel, .sentinel, .sentinel, .sentinel, .sentinel, .sentinel] true :=
  Program.laidByTextLater.sub seatTie1 ["shale/crc.halves", "shale/api.ErrField", "shale/api.ErrNumber", "shale/api.ErrZero", "shale/api.ErrLong", "shale/api.ErrCode", "shale/api.ErrMany", "shale/api.ErrRecord", "shale/api.ErrGeometry", "shale/api.ErrDead", "shale/api.ErrOrder", "shale/api.ErrFailed", "shale/api.ErrBad", "shale/api.ErrPage", "shale/api.ErrFull", "shale/api.ErrGone", "shale/api.ErrSize", "shale/api.ErrReadOnly", "shale/api.ErrStep", "shale/api.ErrMount"] (by kernel_rfl) (by kernel_rfl)
theorem pageMeasures_row_tie : Rows.pageMeasuresRow.laidByTextAt .later Tryz.pinned [.data, .sentinel, .sentinel, .sentinel, .sentinel, .sentinel, .sentinel, .sentinel, .sentinel, .sentinel, .sentinel, .sentinel, .sentinel, .sentinel, .sentinel, .sentinel, .sentinel, .sentinel, .sentinel, .sentinel] true :=
  OpenClaim.laidByTextAt_later rfl rfl tie noOwnUnsafe
theorem pageSays_row_tie : Rows.pageSaysRow.laidByTextAt .later Tryz.pinned [.data, .sentinel, .sentinel, .sentinel, .sentinel, .sentinel, .sentinel, .sentinel, .sentinel, .sentinel, .sentinel, .sentinel, .sentinel, .sentinel, .sentinel, .sentinel, .sentinel, .sentinel, .sentinel, .sentinel] true :=
  OpenClaim.laidByTextAt_later rfl rfl tie noOwnUnsafe
theorem tie2 : Tryz.prog.laidByTextLater [("shale/crc.halves", Rows.laid_shale_crc_halves), ("shale/api.ErrField", Rows.laid_shale_api_ErrField), ("shale/api.ErrNumber", Rows.laid_shale_api_ErrNumber), ("shale/api.ErrZero", Rows.laid_shale_api_ErrZero), ("shale/api.ErrLong", Rows.laid_shale_api_ErrLong), ("shale/api.ErrCode", Rows.laid_shale_api_ErrCode), ("shale/api.ErrMany", Rows.laid_shale_api_ErrMany), ("shale/api.ErrRecord", Rows.laid_shale_api_ErrRecord), ("shale/api.ErrGeometry", Rows.laid_shale_api_ErrGeometry), ("shale/api.ErrSize", Rows.laid_shale_api_ErrSize)] [.data, .sentinel, .sentinel, .sentinel, .sentinel, .sentinel, .sentinel, .sentinel, .sentinel, .sentinel] true :=
  Program.laidByTextLater.sub seatTie1 ["shale/crc.halves", "shale/api.ErrField", "shale/api.ErrNumber", "shale/api.ErrZero", "shale/api.ErrLong", "shale/api.ErrCode", "shale/api.ErrMany", "shale/api.ErrRecord", "shale/api.ErrGeometry", "shale/api.ErrSize"] (by kernel_rfl) (by kernel_rfl)
theorem pageMends_row_tie : Rows.pageMendsRow.laidByTextAt .later Tryz.pinned [.data, .sentinel, .sentinel, .sentinel, .sentinel, .sentinel, .sentinel, .sentinel, .sentinel, .sentinel] true :=
  OpenClaim.laidByTextAt_later rfl rfl tie2 noOwnUnsafe
theorem pageErased_row_tie : Rows.pageErasedRow.laidByTextAt .later Tryz.pinned [.data, .sentinel, .sentinel, .sentinel, .sentinel, .sentinel, .sentinel, .sentinel, .sentinel, .sentinel] true :=
  OpenClaim.laidByTextAt_later rfl rfl tie2 noOwnUnsafe
theorem pageElsewhere_row_tie : Rows.pageElsewhereRow.laidByTextAt .later Tryz.pinned [.data, .sentinel, .sentinel, .sentinel, .sentinel, .sentinel, .sentinel, .sentinel, .sentinel, .sentinel] true :=
  OpenClaim.laidByTextAt_later rfl rfl tie2 noOwnUnsafe
theorem pageFar_row_tie : Rows.pageFarRow.laidByTextAt .later Tryz.pinned [.data, .sentinel, .sentinel, .sentinel, .sentinel, .sentinel, .sentinel, .sentinel, .sentinel, .sentinel] true :=
  OpenClaim.laidByTextAt_later rfl rfl tie2 noOwnUnsafe
theorem pageOwn_row_tie : Rows.pageOwnRow.laidByTextAt .later Tryz.pinned [.data, .sentinel, .sentinel, .sentinel, .sentinel, .sentinel, .sentinel, .sentinel, .sentinel, .sentinel] true :=
  OpenClaim.laidByTextAt_later rfl rfl tie2 noOwnUnsafe
theorem pageMeasuresUpto_row_tie : Rows.pageMeasuresUptoRow.laidByTextAt .later Tryz.pinned [.data, .sentinel, .sentinel, .sentinel, .sentinel, .sentinel, .sentinel, .sentinel, .sentinel, .sentinel, .sentinel, .sentinel, .sentinel, .sentinel, .sentinel, .sentinel, .sentinel, .sentinel, .sentinel, .sentinel] true :=
  OpenClaim.laidByTextAt_later rfl rfl tie noOwnUnsafe
theorem pageSaysUpto_row_tie : Rows.pageSaysUptoRow.laidByTextAt .later Tryz.pinned [.data, .sentinel, .sentinel, .sentinel, .sentinel, .sentinel, .sentinel, .sentinel, .sentinel, .sentinel, .sentinel, .sentinel, .sentinel, .sentinel, .sentinel, .sentinel, .sentinel, .sentinel, .sentinel, .sentinel] true :=
  OpenClaim.laidByTextAt_later rfl rfl tie noOwnUnsafe
theorem pageMendsUpto_row_tie : Rows.pageMendsUptoRow.laidByTextAt .later Tryz.pinned [.data, .sentinel, .sentinel, .sentinel, .sentinel, .sentinel, .sentinel, .sentinel, .sentinel, .sentinel] true :=
  OpenClaim.laidByTextAt_later rfl rfl tie2 noOwnUnsafe
theorem pageErasedUpto_row_tie : Rows.pageErasedUptoRow.laidByTextAt .later Tryz.pinned [.data, .sentinel, .sentinel, .sentinel, .sentinel, .sentinel, .sentinel, .sentinel, .sentinel, .sentinel] true :=
  OpenClaim.laidByTextAt_later rfl rfl tie2 noOwnUnsafe
theorem pageElsewhereUpto_row_tie : Rows.pageElsewhereUptoRow.laidByTextAt .later Tryz.pinned [.data, .sentinel, .sentinel, .sentinel, .sentinel, .sentinel, .sentinel, .sentinel, .sentinel, .sentinel] true :=
  OpenClaim.laidByTextAt_later rfl rfl tie2 noOwnUnsafe
theorem pageFarUpto_row_tie : Rows.pageFarUptoRow.laidByTextAt .later Tryz.pinned [.data, .sentinel, .sentinel, .sentinel, .sentinel, .sentinel, .sentinel, .sentinel, .sentinel, .sentinel] true :=
  OpenClaim.laidByTextAt_later rfl rfl tie2 noOwnUnsafe
theorem pageOwnUpto_row_tie : Rows.pageOwnUptoRow.laidByTextAt .later Tryz.pinned [.data, .sentinel, .sentinel, .sentinel, .sentinel, .sentinel, .sentinel, .sentinel, .sentinel, .sentinel] true :=
  OpenClaim.laidByTextAt_later rfl rfl tie2 noOwnUnsafe
end Go.Proofs.YtdhcigiaidlmbaaGreatDoor
