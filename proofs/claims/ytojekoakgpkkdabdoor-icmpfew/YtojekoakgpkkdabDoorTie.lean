/-
  DERIVED. GIVEN WITH THE SEED: THE PROGRAM's TIES (one call each: nine closed facts by the kernel) AND EACH ROW's TIE, after the 31st guide's Derived/Test/Toyas{Tie, Card}.lean. No idea stands in it: it is a product of the set-up. Laid BY PROGRAM, IN A SANDBOX (cutbox-door.mjs). By AI agents, Wed Nov 11 2026. No macro, syntax, notation, axiom, sorry.
-/
import Derived.Test.YtojekoakgpkkdabDoorRows
import Derived.LaidByTextLater
import Derived.SevenTiedAt
import Derived.LaidSub
import Derived.LaidOnce
namespace Go.Proofs.YtojekoakgpkkdabDoor
open Go
set_option maxRecDepth 100000
theorem seatTie1 : Tryd.prog.laidByTextLater [("adit/icmp.version4", Rows.laid_adit_icmp_version4), ("adit/icmp.version6", Rows.laid_adit_icmp_version6), ("adit/icmp.errors4", Rows.laid_adit_icmp_errors4)] [.data, .data, .data] true :=
  Program.laidByTextLater_by_one 38 8 29 (by kernel_rfl) (by kernel_rfl) (by kernel_rfl) (by kernel_rfl) (by kernel_rfl) (by kernel_rfl) (fun _ _ => by kernel_rfl)
theorem noOwnUnsafe : Tryd.pinned.checked.prog.headLifts.contains "ownunsafe" = false := by kernel_rfl
theorem tie : Tryd.prog.laidByTextLater [("adit/icmp.version4", Rows.laid_adit_icmp_version4), ("adit/icmp.version6", Rows.laid_adit_icmp_version6), ("adit/icmp.errors4", Rows.laid_adit_icmp_errors4)] [.data, .data, .data] true :=
  Program.laidByTextLater.sub seatTie1 ["adit/icmp.version4", "adit/icmp.version6", "adit/icmp.errors4"] (by kernel_rfl) (by kernel_rfl)
theorem icmpFew_row_tie : Rows.icmpFewRow.laidByTextAt .later Tryd.pinned [.data, .data, .data] true :=
  OpenClaim.laidByTextAt_later rfl rfl tie noOwnUnsafe
theorem icmpPaths_row_tie : Rows.icmpPathsRow.laidByTextAt .later Tryd.pinned [.data, .data, .data] true :=
  OpenClaim.laidByTextAt_later rfl rfl tie noOwnUnsafe
theorem icmpFewUpto_row_tie : Rows.icmpFewUptoRow.laidByTextAt .later Tryd.pinned [.data, .data, .data] true :=
  OpenClaim.laidByTextAt_later rfl rfl tie noOwnUnsafe
theorem icmpPathsUpto_row_tie : Rows.icmpPathsUptoRow.laidByTextAt .later Tryd.pinned [.data, .data, .data] true :=
  OpenClaim.laidByTextAt_later rfl rfl tie noOwnUnsafe
end Go.Proofs.YtojekoakgpkkdabDoor
