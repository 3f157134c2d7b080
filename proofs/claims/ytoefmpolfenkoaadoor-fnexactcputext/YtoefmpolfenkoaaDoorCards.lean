/-
  DERIVED. GIVEN WITH THE SEED: THE CARDS: each row of YtoefmpolfenkoaaDoorRows.lean that lists a variable, with what it lists TIED to the program's text (the seventh form; the later family's looks); each row that meets fmt, with fmt's text TOLD by the authors' own Lean function (tested against real Go, not proved from fmt's source: count such statements apart). THE CARD IS WHAT COUNTS. Prove the row's statement (the work); the ties are given (YtoefmpolfenkoaaDoorTie.lean); close each card by the builder's one call (the guide's Derived/Test/ToyasCard.lean, 'card_holds'). Laid BY PROGRAM, IN A SANDBOX (cutbox-door.mjs). By AI agents, Wed Nov 11 2026. No macro, syntax, notation, axiom, sorry.
-/
import Derived.Test.YtoefmpolfenkoaaDoorRows
import GoSem.ClaimSeven
namespace Go.Proofs.YtoefmpolfenkoaaDoor
namespace Rows

/-- THE TIED CARD OF 'laws.FnExactCpuText'. -/
def fnExactCpuTextCard : Claim7 := { stood := { row := fnExactCpuTextRow, standIns := [], harness := (true, "b837e0904ac9c62504d54ffc7141269ec5d5081963e7ebd72b10a9e01d28d14a"), looks := false }, kinds := [], alts := [], laidByText := true, laidKinds := [.data, .data, .data], laidTests := true, laidLooks := .later }
def FnExactCpuTextCardSaid : Prop := Claim7.holds Tryd.pinned (.plain (OpenSpec.ofChange fnExactCpuTextSpec)) fnExactCpuTextCard

/-- THE SECOND FORM's CARD OF 'laws.FnExactCpuText'. -/
def fnExactCpuTextUptoCard : Claim7 := { stood := { row := fnExactCpuTextUptoRow, standIns := [], harness := (true, "b837e0904ac9c62504d54ffc7141269ec5d5081963e7ebd72b10a9e01d28d14a"), looks := false }, kinds := [], alts := [], laidByText := true, laidKinds := [.data, .data, .data], laidTests := true, laidLooks := .later }
def FnExactCpuTextUptoCardSaid : Prop := Claim7.holds Tryd.pinned (.plain (OpenSpec.upto fnExactCpuTextSpec)) fnExactCpuTextUptoCard
end Rows
end Go.Proofs.YtoefmpolfenkoaaDoor
