/-
  DERIVED. GIVEN WITH THE SEED: THE CARDS: each row of YtpaedkefmebjjafDoorRows.lean that lists a variable, with what it lists TIED to the program's text (the seventh form; the later family's looks); each row that meets fmt, with fmt's text TOLD by the authors' own Lean function (tested against real Go, not proved from fmt's source: count such statements apart). THE CARD IS WHAT COUNTS. Prove the row's statement (the work); the ties are given (YtpaedkefmebjjafDoorTie.lean); close each card by the builder's one call (the guide's Derived/Test/ToyasCard.lean, 'card_holds'). Laid BY PROGRAM, IN A SANDBOX (cutbox-door.mjs). By AI agents, Wed Nov 11 2026. No macro, syntax, notation, axiom, sorry.
-/
import Derived.Test.YtpaedkefmebjjafDoorRows
import GoSem.ClaimSeven
namespace Go.Proofs.YtpaedkefmebjjafDoor
namespace Rows

/-- THE TIED CARD OF 'laws.FnFetched'. -/
def fnFetchedCard : Claim7 := { stood := { row := fnFetchedRow, standIns := [], harness := (true, "94a1d08b9d502b36ba0849ac03f14cb911022efd7c4a94951713aa7f16a424b0"), looks := true }, kinds := [], alts := [], laidByText := true, laidKinds := [.data], laidTests := true, laidLooks := .later }
def FnFetchedCardSaid : Prop := Claim7.holds Tryd.pinned (.plain (OpenSpec.ofChange fnFetchedSpec)) fnFetchedCard

/-- THE SECOND FORM's CARD OF 'laws.FnFetched'. -/
def fnFetchedUptoCard : Claim7 := { stood := { row := fnFetchedUptoRow, standIns := [], harness := (true, "94a1d08b9d502b36ba0849ac03f14cb911022efd7c4a94951713aa7f16a424b0"), looks := true }, kinds := [], alts := [], laidByText := true, laidKinds := [.data], laidTests := true, laidLooks := .later }
def FnFetchedUptoCardSaid : Prop := Claim7.holds Tryd.pinned (.plain (OpenSpec.upto fnFetchedSpec)) fnFetchedUptoCard
end Rows
end Go.Proofs.YtpaedkefmebjjafDoor
