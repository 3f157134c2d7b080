/-
  DERIVED. GIVEN WITH THE SEED: THE CARDS: each row of YtmkhfdemakjenakDoorRows.lean that lists a variable, with what it lists TIED to the program's text (the seventh form; the later family's looks); each row that meets fmt, with fmt's text TOLD by the authors' own Lean function (tested against real Go, not proved from fmt's source: count such statements apart). THE CARD IS WHAT COUNTS. Prove the row's statement (the work); the ties are given (YtmkhfdemakjenakDoorTie.lean); close each card by the builder's one call (the guide's Derived/Test/ToyasCard.lean, 'card_holds'). Laid BY PROGRAM, IN A SANDBOX (cutbox-door.mjs). By AI agents, Wed Nov 11 2026. No macro, syntax, notation, axiom, sorry.
-/
import Derived.Test.YtmkhfdemakjenakDoorRows
import GoSem.ClaimSeven
namespace Go.Proofs.YtmkhfdemakjenakDoor
namespace Rows

/-- THE TIED CARD OF 'laws.FnExactOpLen'. -/
def fnExactOpLenCard : Claim7 := { stood := { row := fnExactOpLenRow, standIns := [], harness := (true, "bbfbf955cebc88268ac67d9a6e0677956a7b39af1c1b41983a038614032da10c"), looks := false }, kinds := [], alts := [], laidByText := true, laidKinds := [.data], laidTests := true, laidLooks := .later }
def FnExactOpLenCardSaid : Prop := Claim7.holds Tryd.pinned (.plain (OpenSpec.ofChange fnExactOpLenSpec)) fnExactOpLenCard

/-- THE TIED CARD OF 'laws.FnExactOpCycles'. -/
def fnExactOpCyclesCard : Claim7 := { stood := { row := fnExactOpCyclesRow, standIns := [], harness := (true, "bbfbf955cebc88268ac67d9a6e0677956a7b39af1c1b41983a038614032da10c"), looks := false }, kinds := [], alts := [], laidByText := true, laidKinds := [.data], laidTests := true, laidLooks := .later }
def FnExactOpCyclesCardSaid : Prop := Claim7.holds Tryd.pinned (.plain (OpenSpec.ofChange fnExactOpCyclesSpec)) fnExactOpCyclesCard

/-- THE TIED CARD OF 'laws.FnExactOpAccess'. -/
def fnExactOpAccessCard : Claim7 := { stood := { row := fnExactOpAccessRow, standIns := [], harness := (true, "bbfbf955cebc88268ac67d9a6e0677956a7b39af1c1b41983a038614032da10c"), looks := false }, kinds := [], alts := [], laidByText := true, laidKinds := [.data], laidTests := true, laidLooks := .later }
def FnExactOpAccessCardSaid : Prop := Claim7.holds Tryd.pinned (.plain (OpenSpec.ofChange fnExactOpAccessSpec)) fnExactOpAccessCard

/-- THE SECOND FORM's CARD OF 'laws.FnExactOpLen'. -/
def fnExactOpLenUptoCard : Claim7 := { stood := { row := fnExactOpLenUptoRow, standIns := [], harness := (true, "bbfbf955cebc88268ac67d9a6e0677956a7b39af1c1b41983a038614032da10c"), looks := false }, kinds := [], alts := [], laidByText := true, laidKinds := [.data], laidTests := true, laidLooks := .later }
def FnExactOpLenUptoCardSaid : Prop := Claim7.holds Tryd.pinned (.plain (OpenSpec.upto fnExactOpLenSpec)) fnExactOpLenUptoCard

/-- THE SECOND FORM's CARD OF 'laws.FnExactOpCycles'. -/
def fnExactOpCyclesUptoCard : Claim7 := { stood := { row := fnExactOpCyclesUptoRow, standIns := [], harness := (true, "bbfbf955cebc88268ac67d9a6e0677956a7b39af1c1b41983a038614032da10c"), looks := false }, kinds := [], alts := [], laidByText := true, laidKinds := [.data], laidTests := true, laidLooks := .later }
def FnExactOpCyclesUptoCardSaid : Prop := Claim7.holds Tryd.pinned (.plain (OpenSpec.upto fnExactOpCyclesSpec)) fnExactOpCyclesUptoCard

/-- THE SECOND FORM's CARD OF 'laws.FnExactOpAccess'. -/
def fnExactOpAccessUptoCard : Claim7 := { stood := { row := fnExactOpAccessUptoRow, standIns := [], harness := (true, "bbfbf955cebc88268ac67d9a6e0677956a7b39af1c1b41983a038614032da10c"), looks := false }, kinds := [], alts := [], laidByText := true, laidKinds := [.data], laidTests := true, laidLooks := .later }
def FnExactOpAccessUptoCardSaid : Prop := Claim7.holds Tryd.pinned (.plain (OpenSpec.upto fnExactOpAccessSpec)) fnExactOpAccessUptoCard
end Rows
end Go.Proofs.YtmkhfdemakjenakDoor
