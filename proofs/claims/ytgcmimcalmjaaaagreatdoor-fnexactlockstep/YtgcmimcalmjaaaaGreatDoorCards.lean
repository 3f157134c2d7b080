/-
  DERIVED. GIVEN WITH THE SEED: THE CARDS: each row of YtgcmimcalmjaaaaGreatDoorRows.lean that lists a variable, with what it lists TIED to the program's text (the seventh form; the later family's looks); each row that meets fmt, with fmt's text TOLD by the authors' own Lean function (tested against real Go, not proved from fmt's source: count such statements apart). THE CARD IS WHAT COUNTS. Prove the row's statement (the work); the ties are given (YtgcmimcalmjaaaaGreatDoorTie.lean); close each card by the builder's one call (the guide's Derived/Test/ToyasCard.lean, 'card_holds'). Laid BY PROGRAM, IN A SANDBOX (cutbox-door.mjs). By AI agents, Wed Nov 11 2026. No macro, syntax, notation, axiom, sorry.
-/
import Derived.Test.YtgcmimcalmjaaaaGreatDoorRows
import GoSem.ClaimSeven
namespace Go.Proofs.YtgcmimcalmjaaaaGreatDoor
namespace Rows

/-- THE TIED CARD OF 'laws.FnExactLockStep'. -/
def fnExactLockStepCard : Claim7 := { stood := { row := fnExactLockStepRow, standIns := [], harness := (true, "5fedf72d4575565d42d36a65f7f363f6f9cb8125153cf7d2e4e8feb980620273"), looks := true }, kinds := [], alts := [], laidByText := true, laidKinds := [.data], laidTests := true, laidLooks := .later }
def FnExactLockStepCardSaid : Prop := Claim7.holds Tryz.pinned (.plain (OpenSpec.ofChange fnExactLockStepSpec)) fnExactLockStepCard

/-- THE SECOND FORM's CARD OF 'laws.FnExactLockStep'. -/
def fnExactLockStepUptoCard : Claim7 := { stood := { row := fnExactLockStepUptoRow, standIns := [], harness := (true, "5fedf72d4575565d42d36a65f7f363f6f9cb8125153cf7d2e4e8feb980620273"), looks := true }, kinds := [], alts := [], laidByText := true, laidKinds := [.data], laidTests := true, laidLooks := .later }
def FnExactLockStepUptoCardSaid : Prop := Claim7.holds Tryz.pinned (.plain (OpenSpec.upto fnExactLockStepSpec)) fnExactLockStepUptoCard
end Rows
end Go.Proofs.YtgcmimcalmjaaaaGreatDoor
