/-
  DERIVED. GIVEN WITH THE SEED: THE CARDS: each row of YtpaedkefmebjjajDoorRows.lean that lists a variable, with what it lists TIED to the program's text (the seventh form; the later family's looks); each row that meets fmt, with fmt's text TOLD by the authors' own Lean function (tested against real Go, not proved from fmt's source: count such statements apart). THE CARD IS WHAT COUNTS. Prove the row's statement (the work); the ties are given (YtpaedkefmebjjajDoorTie.lean); close each card by the builder's one call (the guide's Derived/Test/ToyasCard.lean, 'card_holds'). Laid BY PROGRAM, IN A SANDBOX (cutbox-door.mjs). By AI agents, Wed Nov 11 2026. No macro, syntax, notation, axiom, sorry.
-/
import Derived.Test.YtpaedkefmebjjajDoorRows
import GoSem.ClaimSeven
namespace Go.Proofs.YtpaedkefmebjjajDoor
namespace Rows

/-- THE TIED CARD OF 'laws.FnExactImageRead'. -/
def fnExactImageReadCard : Claim7 := { stood := { row := fnExactImageReadRow, standIns := [], harness := (true, "11f467cb505c76b3d68bb6f7bcb4676ed77fbc9b97defc3d59059d91f72d018b"), looks := true }, kinds := [], alts := [], laidByText := true, laidKinds := [.handle], laidTests := true, laidLooks := .later }
def FnExactImageReadCardSaid : Prop := Claim7.holds Tryd.pinned (.plain (OpenSpec.ofChange fnExactImageReadSpec)) fnExactImageReadCard

/-- THE TIED CARD OF 'laws.FnExactOpName'. -/
def fnExactOpNameCard : Claim7 := { stood := { row := fnExactOpNameRow, standIns := [], harness := (true, "11f467cb505c76b3d68bb6f7bcb4676ed77fbc9b97defc3d59059d91f72d018b"), looks := true }, kinds := [], alts := [], laidByText := true, laidKinds := [.data], laidTests := true, laidLooks := .later }
def FnExactOpNameCardSaid : Prop := Claim7.holds Tryd.pinned (.plain (OpenSpec.ofChange fnExactOpNameSpec)) fnExactOpNameCard

/-- THE SECOND FORM's CARD OF 'laws.FnExactImageRead'. -/
def fnExactImageReadUptoCard : Claim7 := { stood := { row := fnExactImageReadUptoRow, standIns := [], harness := (true, "11f467cb505c76b3d68bb6f7bcb4676ed77fbc9b97defc3d59059d91f72d018b"), looks := true }, kinds := [], alts := [], laidByText := true, laidKinds := [.handle], laidTests := true, laidLooks := .later }
def FnExactImageReadUptoCardSaid : Prop := Claim7.holds Tryd.pinned (.plain (OpenSpec.upto fnExactImageReadSpec)) fnExactImageReadUptoCard

/-- THE SECOND FORM's CARD OF 'laws.FnExactOpName'. -/
def fnExactOpNameUptoCard : Claim7 := { stood := { row := fnExactOpNameUptoRow, standIns := [], harness := (true, "11f467cb505c76b3d68bb6f7bcb4676ed77fbc9b97defc3d59059d91f72d018b"), looks := true }, kinds := [], alts := [], laidByText := true, laidKinds := [.data], laidTests := true, laidLooks := .later }
def FnExactOpNameUptoCardSaid : Prop := Claim7.holds Tryd.pinned (.plain (OpenSpec.upto fnExactOpNameSpec)) fnExactOpNameUptoCard
end Rows
end Go.Proofs.YtpaedkefmebjjajDoor
