/-
  DERIVED. GIVEN WITH THE SEED: THE CARDS: each row of YtpaedkefmebjjanDoorRows.lean that lists a variable, with what it lists TIED to the program's text (the seventh form; the later family's looks); each row that meets fmt, with fmt's text TOLD by the authors' own Lean function (tested against real Go, not proved from fmt's source: count such statements apart). THE CARD IS WHAT COUNTS. Prove the row's statement (the work); the ties are given (YtpaedkefmebjjanDoorTie.lean); close each card by the builder's one call (the guide's Derived/Test/ToyasCard.lean, 'card_holds'). Laid BY PROGRAM, IN A SANDBOX (cutbox-door.mjs). By AI agents, Wed Nov 11 2026. No macro, syntax, notation, axiom, sorry.
-/
import Derived.Test.YtpaedkefmebjjanDoorRows
import GoSem.ClaimSeven
namespace Go.Proofs.YtpaedkefmebjjanDoor
namespace Rows

/-- THE TIED CARD OF 'laws.FnExactFetch'. -/
def fnExactFetchCard : Claim7 := { stood := { row := fnExactFetchRow, standIns := [], harness := (true, "0ac0ad466622566e6aca02c69a9535d1fe05565f2bc9f99f0dbd9f1a5dccb9ce"), looks := true }, kinds := [], alts := [], laidByText := true, laidKinds := [.data], laidTests := true, laidLooks := .later }
def FnExactFetchCardSaid : Prop := Claim7.holds Tryd.pinned (.plain (OpenSpec.ofChange fnExactFetchSpec)) fnExactFetchCard

/-- THE TIED CARD OF 'laws.FnExactAccess'. -/
def fnExactAccessCard : Claim7 := { stood := { row := fnExactAccessRow, standIns := [], harness := (true, "0ac0ad466622566e6aca02c69a9535d1fe05565f2bc9f99f0dbd9f1a5dccb9ce"), looks := true }, kinds := [], alts := [], laidByText := true, laidKinds := [.data], laidTests := true, laidLooks := .later }
def FnExactAccessCardSaid : Prop := Claim7.holds Tryd.pinned (.plain (OpenSpec.ofChange fnExactAccessSpec)) fnExactAccessCard

/-- THE TIED CARD OF 'laws.FnExactExec'. -/
def fnExactExecCard : Claim7 := { stood := { row := fnExactExecRow, standIns := [], harness := (true, "0ac0ad466622566e6aca02c69a9535d1fe05565f2bc9f99f0dbd9f1a5dccb9ce"), looks := true }, kinds := [], alts := [], laidByText := true, laidKinds := [.data], laidTests := true, laidLooks := .later }
def FnExactExecCardSaid : Prop := Claim7.holds Tryd.pinned (.plain (OpenSpec.ofChange fnExactExecSpec)) fnExactExecCard

/-- THE SECOND FORM's CARD OF 'laws.FnExactFetch'. -/
def fnExactFetchUptoCard : Claim7 := { stood := { row := fnExactFetchUptoRow, standIns := [], harness := (true, "0ac0ad466622566e6aca02c69a9535d1fe05565f2bc9f99f0dbd9f1a5dccb9ce"), looks := true }, kinds := [], alts := [], laidByText := true, laidKinds := [.data], laidTests := true, laidLooks := .later }
def FnExactFetchUptoCardSaid : Prop := Claim7.holds Tryd.pinned (.plain (OpenSpec.upto fnExactFetchSpec)) fnExactFetchUptoCard

/-- THE SECOND FORM's CARD OF 'laws.FnExactAccess'. -/
def fnExactAccessUptoCard : Claim7 := { stood := { row := fnExactAccessUptoRow, standIns := [], harness := (true, "0ac0ad466622566e6aca02c69a9535d1fe05565f2bc9f99f0dbd9f1a5dccb9ce"), looks := true }, kinds := [], alts := [], laidByText := true, laidKinds := [.data], laidTests := true, laidLooks := .later }
def FnExactAccessUptoCardSaid : Prop := Claim7.holds Tryd.pinned (.plain (OpenSpec.upto fnExactAccessSpec)) fnExactAccessUptoCard

/-- THE SECOND FORM's CARD OF 'laws.FnExactExec'. -/
def fnExactExecUptoCard : Claim7 := { stood := { row := fnExactExecUptoRow, standIns := [], harness := (true, "0ac0ad466622566e6aca02c69a9535d1fe05565f2bc9f99f0dbd9f1a5dccb9ce"), looks := true }, kinds := [], alts := [], laidByText := true, laidKinds := [.data], laidTests := true, laidLooks := .later }
def FnExactExecUptoCardSaid : Prop := Claim7.holds Tryd.pinned (.plain (OpenSpec.upto fnExactExecSpec)) fnExactExecUptoCard
end Rows
end Go.Proofs.YtpaedkefmebjjanDoor
