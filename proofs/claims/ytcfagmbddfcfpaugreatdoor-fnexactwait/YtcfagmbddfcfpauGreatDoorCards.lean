/-
  DERIVED. GIVEN WITH THE SEED: THE CARDS: each row of YtcfagmbddfcfpauGreatDoorRows.lean that lists a variable, with what it lists TIED to the program's text (the seventh form; the later family's looks); each row that meets fmt, with fmt's text TOLD by the authors' own Lean function (tested against real Go, not proved from fmt's source: count such statements apart). THE CARD IS WHAT COUNTS. Prove the row's statement (the work); the ties are given (YtcfagmbddfcfpauGreatDoorTie.lean); close each card by the builder's one call (the guide's Derived/Test/ToyasCard.lean, 'card_holds'). Laid BY PROGRAM, IN A SANDBOX (cutbox-door.mjs). By AI agents, Wed Nov 11 2026. No macro, syntax, notation, axiom, sorry.
-/
import Derived.Test.YtcfagmbddfcfpauGreatDoorRows
import GoSem.ClaimSeven
namespace Go.Proofs.YtcfagmbddfcfpauGreatDoor
namespace Rows

/-- THE TIED CARD OF 'laws.FnExactWait'. -/
def fnExactWaitCard : Claim7 := { stood := { row := fnExactWaitRow, standIns := [], harness := (true, "742a97bb248f87624f030fd611a7b7e5b915a759ef1856b7f0ae9873a7292ed0"), looks := true }, kinds := [], alts := [], laidByText := true, laidKinds := [.data], laidTests := true, laidLooks := .later }
def FnExactWaitCardSaid : Prop := Claim7.holds Tryz.pinned (.plain (OpenSpec.ofChange fnExactWaitSpec)) fnExactWaitCard

/-- THE TIED CARD OF 'laws.FnExactCpuStep'. -/
def fnExactCpuStepCard : Claim7 := { stood := { row := fnExactCpuStepRow, standIns := [], harness := (true, "742a97bb248f87624f030fd611a7b7e5b915a759ef1856b7f0ae9873a7292ed0"), looks := true }, kinds := [], alts := [], laidByText := true, laidKinds := [.data], laidTests := true, laidLooks := .later }
def FnExactCpuStepCardSaid : Prop := Claim7.holds Tryz.pinned (.plain (OpenSpec.ofChange fnExactCpuStepSpec)) fnExactCpuStepCard

/-- THE SECOND FORM's CARD OF 'laws.FnExactWait'. -/
def fnExactWaitUptoCard : Claim7 := { stood := { row := fnExactWaitUptoRow, standIns := [], harness := (true, "742a97bb248f87624f030fd611a7b7e5b915a759ef1856b7f0ae9873a7292ed0"), looks := true }, kinds := [], alts := [], laidByText := true, laidKinds := [.data], laidTests := true, laidLooks := .later }
def FnExactWaitUptoCardSaid : Prop := Claim7.holds Tryz.pinned (.plain (OpenSpec.upto fnExactWaitSpec)) fnExactWaitUptoCard

/-- THE SECOND FORM's CARD OF 'laws.FnExactCpuStep'. -/
def fnExactCpuStepUptoCard : Claim7 := { stood := { row := fnExactCpuStepUptoRow, standIns := [], harness := (true, "742a97bb248f87624f030fd611a7b7e5b915a759ef1856b7f0ae9873a7292ed0"), looks := true }, kinds := [], alts := [], laidByText := true, laidKinds := [.data], laidTests := true, laidLooks := .later }
def FnExactCpuStepUptoCardSaid : Prop := Claim7.holds Tryz.pinned (.plain (OpenSpec.upto fnExactCpuStepSpec)) fnExactCpuStepUptoCard
end Rows
end Go.Proofs.YtcfagmbddfcfpauGreatDoor
