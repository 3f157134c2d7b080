/-
  DERIVED. GIVEN WITH THE SEED: THE CARDS: each row of YtjcaligejlhjdaaGreatDoorRows.lean that lists a variable, with what it lists TIED to the program's text (the seventh form; the later family's looks); each row that meets fmt, with fmt's text TOLD by the authors' own Lean function (tested against real Go, not proved from fmt's source: count such statements apart). THE CARD IS WHAT COUNTS. Prove the row's statement (the work); the ties are given (YtjcaligejlhjdaaGreatDoorTie.lean); close each card by the builder's one call (the guide's Derived/Test/ToyasCard.lean, 'card_holds'). Laid BY PROGRAM, IN A SANDBOX (cutbox-door.mjs). By AI agents, Wed Nov 11 2026. No macro, syntax, notation, axiom, sorry.
-/
import Derived.Test.YtjcaligejlhjdaaGreatDoorRows
import GoSem.ClaimSeven
namespace Go.Proofs.YtjcaligejlhjdaaGreatDoor
namespace Rows

/-- THE TIED CARD OF 'laws.FnExactWait'. -/
def fnExactWaitCard : Claim7 := { stood := { row := fnExactWaitRow, standIns := [], harness := (true, "b3ff5ba57522092d46d1ac5b07e7d754d76f5f78cf75d136887eaa5c2a1a8d60"), looks := true }, kinds := [], alts := [], laidByText := true, laidKinds := [.data], laidTests := true, laidLooks := .later }
def FnExactWaitCardSaid : Prop := Claim7.holds Tryz.pinned (.plain (OpenSpec.ofChange fnExactWaitSpec)) fnExactWaitCard

/-- THE SECOND FORM's CARD OF 'laws.FnExactWait'. -/
def fnExactWaitUptoCard : Claim7 := { stood := { row := fnExactWaitUptoRow, standIns := [], harness := (true, "b3ff5ba57522092d46d1ac5b07e7d754d76f5f78cf75d136887eaa5c2a1a8d60"), looks := true }, kinds := [], alts := [], laidByText := true, laidKinds := [.data], laidTests := true, laidLooks := .later }
def FnExactWaitUptoCardSaid : Prop := Claim7.holds Tryz.pinned (.plain (OpenSpec.upto fnExactWaitSpec)) fnExactWaitUptoCard
end Rows
end Go.Proofs.YtjcaligejlhjdaaGreatDoor
