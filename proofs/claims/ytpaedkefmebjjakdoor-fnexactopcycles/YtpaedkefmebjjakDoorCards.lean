/-
  DERIVED. GIVEN WITH THE SEED: THE CARDS: each row of YtpaedkefmebjjakDoorRows.lean that lists a variable, with what it lists TIED to the program's text (the seventh form; the later family's looks); each row that meets fmt, with fmt's text TOLD by the authors' own Lean function (tested against real Go, not proved from fmt's source: count such statements apart). THE CARD IS WHAT COUNTS. Prove the row's statement (the work); the ties are given (YtpaedkefmebjjakDoorTie.lean); close each card by the builder's one call (the guide's Derived/Test/ToyasCard.lean, 'card_holds'). Laid BY PROGRAM, IN A SANDBOX (cutbox-door.mjs). By AI agents, Wed Nov 11 2026. No macro, syntax, notation, axiom, sorry.
-/
import Derived.Test.YtpaedkefmebjjakDoorRows
import GoSem.ClaimSeven
namespace Go.Proofs.YtpaedkefmebjjakDoor
namespace Rows

/-- THE TIED CARD OF 'laws.FnExactOpLen'. -/
def fnExactOpLenCard : Claim7 := { stood := { row := fnExactOpLenRow, standIns := [], harness := (true, "5df384a6684f6f156d0469336d254d76db7a5c1793e3a44e055cc9ccd411bd14"), looks := false }, kinds := [], alts := [], laidByText := true, laidKinds := [.data], laidTests := true, laidLooks := .later }
def FnExactOpLenCardSaid : Prop := Claim7.holds Tryd.pinned (.plain (OpenSpec.ofChange fnExactOpLenSpec)) fnExactOpLenCard

/-- THE TIED CARD OF 'laws.FnExactOpCycles'. -/
def fnExactOpCyclesCard : Claim7 := { stood := { row := fnExactOpCyclesRow, standIns := [], harness := (true, "5df384a6684f6f156d0469336d254d76db7a5c1793e3a44e055cc9ccd411bd14"), looks := false }, kinds := [], alts := [], laidByText := true, laidKinds := [.data], laidTests := true, laidLooks := .later }
def FnExactOpCyclesCardSaid : Prop := Claim7.holds Tryd.pinned (.plain (OpenSpec.ofChange fnExactOpCyclesSpec)) fnExactOpCyclesCard

/-- THE TIED CARD OF 'laws.FnExactOpAccess'. -/
def fnExactOpAccessCard : Claim7 := { stood := { row := fnExactOpAccessRow, standIns := [], harness := (true, "5df384a6684f6f156d0469336d254d76db7a5c1793e3a44e055cc9ccd411bd14"), looks := false }, kinds := [], alts := [], laidByText := true, laidKinds := [.data], laidTests := true, laidLooks := .later }
def FnExactOpAccessCardSaid : Prop := Claim7.holds Tryd.pinned (.plain (OpenSpec.ofChange fnExactOpAccessSpec)) fnExactOpAccessCard

/-- THE TIED CARD OF 'laws.FnExactLineOf'. -/
def fnExactLineOfCard : Claim7 := { stood := { row := fnExactLineOfRow, standIns := [], harness := (true, "5df384a6684f6f156d0469336d254d76db7a5c1793e3a44e055cc9ccd411bd14"), looks := false }, kinds := [], alts := [], laidByText := true, laidKinds := [.data, .data, .data, .data], laidTests := true, laidLooks := .later }
def FnExactLineOfCardSaid : Prop := Claim7.holds Tryd.pinned (.plain (OpenSpec.ofChange fnExactLineOfSpec)) fnExactLineOfCard

/-- THE SECOND FORM's CARD OF 'laws.FnExactOpLen'. -/
def fnExactOpLenUptoCard : Claim7 := { stood := { row := fnExactOpLenUptoRow, standIns := [], harness := (true, "5df384a6684f6f156d0469336d254d76db7a5c1793e3a44e055cc9ccd411bd14"), looks := false }, kinds := [], alts := [], laidByText := true, laidKinds := [.data], laidTests := true, laidLooks := .later }
def FnExactOpLenUptoCardSaid : Prop := Claim7.holds Tryd.pinned (.plain (OpenSpec.upto fnExactOpLenSpec)) fnExactOpLenUptoCard

/-- THE SECOND FORM's CARD OF 'laws.FnExactOpCycles'. -/
def fnExactOpCyclesUptoCard : Claim7 := { stood := { row := fnExactOpCyclesUptoRow, standIns := [], harness := (true, "5df384a6684f6f156d0469336d254d76db7a5c1793e3a44e055cc9ccd411bd14"), looks := false }, kinds := [], alts := [], laidByText := true, laidKinds := [.data], laidTests := true, laidLooks := .later }
def FnExactOpCyclesUptoCardSaid : Prop := Claim7.holds Tryd.pinned (.plain (OpenSpec.upto fnExactOpCyclesSpec)) fnExactOpCyclesUptoCard

/-- THE SECOND FORM's CARD OF 'laws.FnExactOpAccess'. -/
def fnExactOpAccessUptoCard : Claim7 := { stood := { row := fnExactOpAccessUptoRow, standIns := [], harness := (true, "5df384a6684f6f156d0469336d254d76db7a5c1793e3a44e055cc9ccd411bd14"), looks := false }, kinds := [], alts := [], laidByText := true, laidKinds := [.data], laidTests := true, laidLooks := .later }
def FnExactOpAccessUptoCardSaid : Prop := Claim7.holds Tryd.pinned (.plain (OpenSpec.upto fnExactOpAccessSpec)) fnExactOpAccessUptoCard

/-- THE SECOND FORM's CARD OF 'laws.FnExactLineOf'. -/
def fnExactLineOfUptoCard : Claim7 := { stood := { row := fnExactLineOfUptoRow, standIns := [], harness := (true, "5df384a6684f6f156d0469336d254d76db7a5c1793e3a44e055cc9ccd411bd14"), looks := false }, kinds := [], alts := [], laidByText := true, laidKinds := [.data, .data, .data, .data], laidTests := true, laidLooks := .later }
def FnExactLineOfUptoCardSaid : Prop := Claim7.holds Tryd.pinned (.plain (OpenSpec.upto fnExactLineOfSpec)) fnExactLineOfUptoCard
end Rows
end Go.Proofs.YtpaedkefmebjjakDoor
