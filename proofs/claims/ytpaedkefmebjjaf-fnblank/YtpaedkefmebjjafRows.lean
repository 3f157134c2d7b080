/-
  No cell of these rows narrows 'for every input' (looked for: loops, veiled, ifaces, maps, wideKeys, modest, calm, conditions, laid).
  DERIVED. THE GIVEN ROWS OF THIS SEAT. 4 by the template 'for every input the law returns true; each argument reads behind the call as it read before'; 0 by the template 'total and deterministic' (their statements: YtpaedkefmebjjafTotals.lean).
  GIVEN WITH THE SEED: the statements are not yours to turn. If you find one false, say at which input.
  Laid BY PROGRAM, IN A SANDBOX (cutbox-rows.mjs): the forced cells as the released guide's own fill.sh prints them over the translation d4f6cc300fcfe397… (all of the seat's roots in one cut). By AI agents, Wed Nov 11 2026. No macro, syntax, notation, axiom, sorry.
-/
import Derived.Test.YtpaedkefmebjjafChecked
import GoSem.Claim
import GoSem.ClaimJoined
import GoSem.ClaimMapViews
import Derived.JoinedTies
import Derived.KernelRfl
namespace Go.Proofs.Ytpaedkefmebjjaf
/- THE CELL 'sum', in the pinned program and in every row, IS THE sha256 OF THE DUMP (.gsa) THAT YtpaedkefmebjjafProg.lean LOADS. Nothing in Lean hashes anything: it is a label: what it is worth is what the hold of that sum in a sandbox is worth. -/
noncomputable def Try.pinned : Pinned := { name := "ytpaedkefmebjjaf", sum := "d4f6cc300fcfe397b05b3a3a9bec1ba7574b79c6ff5e9257f572d79e3dff1b3a", checked := Try.checked }
namespace Rows
def none {H : Type} : Left H := { results := [], args := [] }

/-- 'laws.FnPicture': WHATEVER THE INPUT: true; the input reads as it did. -/
def fnPictureSpec : ChangeSpec := { name := "fnPicture", fn := fun _ => fun
  | [d] => { results := [.lit (.bool true)], args := [d] }
  | _ => none }
def fnPictureRow : OpenClaim := { program := "ytpaedkefmebjjaf", sum := "d4f6cc300fcfe397b05b3a3a9bec1ba7574b79c6ff5e9257f572d79e3dff1b3a", func := "loop.example/g00231/laws.FnPicture", spec := "fnPicture", unfollowed := true, recurses := true, apart := false }
def FnPictureSaid : Prop := fnPictureRow.holds Try.pinned (OpenSpec.ofChange fnPictureSpec)

/-- ITS FALSE NEIGHBOUR: 'it returns false'. Refute it at one input. -/
def fnPictureWrong : ChangeSpec := { name := "fnPicture", fn := fun _ => fun
  | [d] => { results := [.lit (.bool false)], args := [d] }
  | _ => none }
def FnPictureWrongFalsely : Prop := fnPictureRow.holds Try.pinned (OpenSpec.ofChange fnPictureWrong)

/-- 'laws.FnDots': WHATEVER THE INPUT: true; the input reads as it did. -/
def fnDotsSpec : ChangeSpec := { name := "fnDots", fn := fun _ => fun
  | [d] => { results := [.lit (.bool true)], args := [d] }
  | _ => none }
def fnDotsRow : OpenClaim := { program := "ytpaedkefmebjjaf", sum := "d4f6cc300fcfe397b05b3a3a9bec1ba7574b79c6ff5e9257f572d79e3dff1b3a", func := "loop.example/g00231/laws.FnDots", spec := "fnDots", unfollowed := true, recurses := true, apart := false }
def FnDotsSaid : Prop := fnDotsRow.holds Try.pinned (OpenSpec.ofChange fnDotsSpec)

/-- ITS FALSE NEIGHBOUR: 'it returns false'. Refute it at one input. -/
def fnDotsWrong : ChangeSpec := { name := "fnDots", fn := fun _ => fun
  | [d] => { results := [.lit (.bool false)], args := [d] }
  | _ => none }
def FnDotsWrongFalsely : Prop := fnDotsRow.holds Try.pinned (OpenSpec.ofChange fnDotsWrong)

/-- 'laws.FnPictureRegs': WHATEVER THE INPUT: true; the input reads as it did. -/
def fnPictureRegsSpec : ChangeSpec := { name := "fnPictureRegs", fn := fun _ => fun
  | [d] => { results := [.lit (.bool true)], args := [d] }
  | _ => none }
def fnPictureRegsRow : OpenClaim := { program := "ytpaedkefmebjjaf", sum := "d4f6cc300fcfe397b05b3a3a9bec1ba7574b79c6ff5e9257f572d79e3dff1b3a", func := "loop.example/g00231/laws.FnPictureRegs", spec := "fnPictureRegs", apart := false }
def FnPictureRegsSaid : Prop := fnPictureRegsRow.holds Try.pinned (OpenSpec.ofChange fnPictureRegsSpec)

/-- ITS FALSE NEIGHBOUR: 'it returns false'. Refute it at one input. -/
def fnPictureRegsWrong : ChangeSpec := { name := "fnPictureRegs", fn := fun _ => fun
  | [d] => { results := [.lit (.bool false)], args := [d] }
  | _ => none }
def FnPictureRegsWrongFalsely : Prop := fnPictureRegsRow.holds Try.pinned (OpenSpec.ofChange fnPictureRegsWrong)

/-- 'laws.FnBlank': WHATEVER THE INPUT: true; the input reads as it did. -/
def fnBlankSpec : ChangeSpec := { name := "fnBlank", fn := fun _ => fun
  | [d] => { results := [.lit (.bool true)], args := [d] }
  | _ => none }
def fnBlankRow : OpenClaim := { program := "ytpaedkefmebjjaf", sum := "d4f6cc300fcfe397b05b3a3a9bec1ba7574b79c6ff5e9257f572d79e3dff1b3a", func := "loop.example/g00231/laws.FnBlank", spec := "fnBlank", unfollowed := true, recurses := true, apart := false }
def FnBlankSaid : Prop := fnBlankRow.holds Try.pinned (OpenSpec.ofChange fnBlankSpec)

/-- ITS FALSE NEIGHBOUR: 'it returns false'. Refute it at one input. -/
def fnBlankWrong : ChangeSpec := { name := "fnBlank", fn := fun _ => fun
  | [d] => { results := [.lit (.bool false)], args := [d] }
  | _ => none }
def FnBlankWrongFalsely : Prop := fnBlankRow.holds Try.pinned (OpenSpec.ofChange fnBlankWrong)

/- THE SECOND FORM. 'bulk': how many values and letters a reading holds, each counted each time it is reached (what is shared counts as often as it is met; a slice's spare places count too). A statement '..UptoSaid' is the law's where the arguments, and the package variables that the reading takes, are together of bulk at most 1048576: NARROWER than '..Said'. Prove '..Said' where nothing that the law and all that it calls make is longer than what came in: it says more and counts as full. Else prove '..UptoSaid'. A law counts once. -/
mutual
def uptoBulk {H : Type} : DataW H → Nat
  | .lit (.string bytes) => bytes.length + 1
  | .lit _ => 1
  | .nil => 1
  | .ptr d => uptoBulk d + 1
  | .slice elems spare => uptoBulkAll elems + uptoBulkAll spare + 1
  | .agg parts => uptoBulkAll parts + 1
  | .iface _ d => uptoBulk d + 1
  | .map entries => uptoBulkEntries entries + 1
  | .held _ => 1
def uptoBulkAll {H : Type} : List (DataW H) → Nat
  | [] => 0
  | d :: r => uptoBulk d + uptoBulkAll r
def uptoBulkEntries {H : Type} : List (Lit × DataW H) → Nat
  | [] => 0
  | x :: r => uptoBulkEntry x + uptoBulkEntries r
def uptoBulkEntry {H : Type} : Lit × DataW H → Nat
  | (.string bytes, d) => bytes.length + uptoBulk d + 1
  | (_, d) => uptoBulk d + 1
 end
def uptoSmall : (H : Type) → List (DataW H) → Bool := fun _ ds => decide (uptoBulkAll ds ≤ 1048576)
def OpenSpec.upto (s : _root_.Go.ChangeSpec) : _root_.Go.OpenSpec := { _root_.Go.OpenSpec.ofChange s with cond := some uptoSmall }

/-- 'laws.FnPicture', WHERE WHAT IT READS IS OF BULK AT MOST 1048576: true; the input reads as it did. -/
def fnPictureUptoRow : OpenClaim := { program := "ytpaedkefmebjjaf", sum := "d4f6cc300fcfe397b05b3a3a9bec1ba7574b79c6ff5e9257f572d79e3dff1b3a", func := "loop.example/g00231/laws.FnPicture", spec := "fnPicture", unfollowed := true, recurses := true, apart := false, narrowed := true }
def FnPictureUptoSaid : Prop := fnPictureUptoRow.holds Try.pinned (OpenSpec.upto fnPictureSpec)

/-- 'laws.FnDots', WHERE WHAT IT READS IS OF BULK AT MOST 1048576: true; the input reads as it did. -/
def fnDotsUptoRow : OpenClaim := { program := "ytpaedkefmebjjaf", sum := "d4f6cc300fcfe397b05b3a3a9bec1ba7574b79c6ff5e9257f572d79e3dff1b3a", func := "loop.example/g00231/laws.FnDots", spec := "fnDots", unfollowed := true, recurses := true, apart := false, narrowed := true }
def FnDotsUptoSaid : Prop := fnDotsUptoRow.holds Try.pinned (OpenSpec.upto fnDotsSpec)

/-- 'laws.FnPictureRegs', WHERE WHAT IT READS IS OF BULK AT MOST 1048576: true; the input reads as it did. -/
def fnPictureRegsUptoRow : OpenClaim := { program := "ytpaedkefmebjjaf", sum := "d4f6cc300fcfe397b05b3a3a9bec1ba7574b79c6ff5e9257f572d79e3dff1b3a", func := "loop.example/g00231/laws.FnPictureRegs", spec := "fnPictureRegs", apart := false, narrowed := true }
def FnPictureRegsUptoSaid : Prop := fnPictureRegsUptoRow.holds Try.pinned (OpenSpec.upto fnPictureRegsSpec)

/-- 'laws.FnBlank', WHERE WHAT IT READS IS OF BULK AT MOST 1048576: true; the input reads as it did. -/
def fnBlankUptoRow : OpenClaim := { program := "ytpaedkefmebjjaf", sum := "d4f6cc300fcfe397b05b3a3a9bec1ba7574b79c6ff5e9257f572d79e3dff1b3a", func := "loop.example/g00231/laws.FnBlank", spec := "fnBlank", unfollowed := true, recurses := true, apart := false, narrowed := true }
def FnBlankUptoSaid : Prop := fnBlankUptoRow.holds Try.pinned (OpenSpec.upto fnBlankSpec)

end Rows
end Go.Proofs.Ytpaedkefmebjjaf
