/-
  No cell of these rows narrows 'for every input' (looked for: loops, veiled, ifaces, maps, wideKeys, modest, calm, conditions, laid).
  DERIVED. THE GIVEN ROWS OF THIS SEAT. 5 by the template 'for every input the law returns true; each argument reads behind the call as it read before'; 0 by the template 'total and deterministic' (their statements: YtpaedkefmebjjaqTotals.lean).
  GIVEN WITH THE SEED: the statements are not yours to turn. If you find one false, say at which input.
  Laid BY PROGRAM, IN A SANDBOX (cutbox-rows.mjs): the forced cells as the released guide's own fill.sh prints them over the translation 8798bf5623241d7c… (all of the seat's roots in one cut). By AI agents, Wed Nov 11 2026. No macro, syntax, notation, axiom, sorry.
-/
import Derived.Test.YtpaedkefmebjjaqChecked
import GoSem.Claim
import GoSem.ClaimJoined
import GoSem.ClaimMapViews
import Derived.JoinedTies
import Derived.KernelRfl
namespace Go.Proofs.Ytpaedkefmebjjaq
/- THE CELL 'sum', in the pinned program and in every row, IS THE sha256 OF THE DUMP (.gsa) THAT YtpaedkefmebjjaqProg.lean LOADS. Nothing in Lean hashes anything: it is a label: what it is worth is what the hold of that sum in a sandbox is worth. -/
noncomputable def Try.pinned : Pinned := { name := "ytpaedkefmebjjaq", sum := "8798bf5623241d7c5ec1707ba07aa50359816be1a163f26dd3e88c7715c5fbd0", checked := Try.checked }
namespace Rows
def none {H : Type} : Left H := { results := [], args := [] }

/-- 'laws.FnExactBeatIn': WHATEVER THE INPUT: true; the input reads as it did. -/
def fnExactBeatInSpec : ChangeSpec := { name := "fnExactBeatIn", fn := fun _ => fun
  | [d1, d2] => { results := [.lit (.bool true)], args := [d1, d2] }
  | _ => none }
def fnExactBeatInRow : OpenClaim := { program := "ytpaedkefmebjjaq", sum := "8798bf5623241d7c5ec1707ba07aa50359816be1a163f26dd3e88c7715c5fbd0", func := "loop.example/g00231/laws.FnExactBeatIn", spec := "fnExactBeatIn", apart := false }
def FnExactBeatInSaid : Prop := fnExactBeatInRow.holds Try.pinned (OpenSpec.ofChange fnExactBeatInSpec)

/-- ITS FALSE NEIGHBOUR: 'it returns false'. Refute it at one input. -/
def fnExactBeatInWrong : ChangeSpec := { name := "fnExactBeatIn", fn := fun _ => fun
  | [d1, d2] => { results := [.lit (.bool false)], args := [d1, d2] }
  | _ => none }
def FnExactBeatInWrongFalsely : Prop := fnExactBeatInRow.holds Try.pinned (OpenSpec.ofChange fnExactBeatInWrong)

/-- 'laws.FnExactPadsOk': WHATEVER THE INPUT: true; the input reads as it did. -/
def fnExactPadsOkSpec : ChangeSpec := { name := "fnExactPadsOk", fn := fun _ => fun
  | [d] => { results := [.lit (.bool true)], args := [d] }
  | _ => none }
def fnExactPadsOkRow : OpenClaim := { program := "ytpaedkefmebjjaq", sum := "8798bf5623241d7c5ec1707ba07aa50359816be1a163f26dd3e88c7715c5fbd0", func := "loop.example/g00231/laws.FnExactPadsOk", spec := "fnExactPadsOk", apart := false }
def FnExactPadsOkSaid : Prop := fnExactPadsOkRow.holds Try.pinned (OpenSpec.ofChange fnExactPadsOkSpec)

/-- ITS FALSE NEIGHBOUR: 'it returns false'. Refute it at one input. -/
def fnExactPadsOkWrong : ChangeSpec := { name := "fnExactPadsOk", fn := fun _ => fun
  | [d] => { results := [.lit (.bool false)], args := [d] }
  | _ => none }
def FnExactPadsOkWrongFalsely : Prop := fnExactPadsOkRow.holds Try.pinned (OpenSpec.ofChange fnExactPadsOkWrong)

/-- 'laws.FnExactPadAt': WHATEVER THE INPUT: true; the input reads as it did. -/
def fnExactPadAtSpec : ChangeSpec := { name := "fnExactPadAt", fn := fun _ => fun
  | [d1, d2] => { results := [.lit (.bool true)], args := [d1, d2] }
  | _ => none }
def fnExactPadAtRow : OpenClaim := { program := "ytpaedkefmebjjaq", sum := "8798bf5623241d7c5ec1707ba07aa50359816be1a163f26dd3e88c7715c5fbd0", func := "loop.example/g00231/laws.FnExactPadAt", spec := "fnExactPadAt", apart := false }
def FnExactPadAtSaid : Prop := fnExactPadAtRow.holds Try.pinned (OpenSpec.ofChange fnExactPadAtSpec)

/-- ITS FALSE NEIGHBOUR: 'it returns false'. Refute it at one input. -/
def fnExactPadAtWrong : ChangeSpec := { name := "fnExactPadAt", fn := fun _ => fun
  | [d1, d2] => { results := [.lit (.bool false)], args := [d1, d2] }
  | _ => none }
def FnExactPadAtWrongFalsely : Prop := fnExactPadAtRow.holds Try.pinned (OpenSpec.ofChange fnExactPadAtWrong)

/-- 'laws.FnExactPadWrite': WHATEVER THE INPUT: true; the input reads as it did. -/
def fnExactPadWriteSpec : ChangeSpec := { name := "fnExactPadWrite", fn := fun _ => fun
  | [d1, d2, d3, d4] => { results := [.lit (.bool true)], args := [d1, d2, d3, d4] }
  | _ => none }
def fnExactPadWriteRow : OpenClaim := { program := "ytpaedkefmebjjaq", sum := "8798bf5623241d7c5ec1707ba07aa50359816be1a163f26dd3e88c7715c5fbd0", func := "loop.example/g00231/laws.FnExactPadWrite", spec := "fnExactPadWrite", apart := false }
def FnExactPadWriteSaid : Prop := fnExactPadWriteRow.holds Try.pinned (OpenSpec.ofChange fnExactPadWriteSpec)

/-- ITS FALSE NEIGHBOUR: 'it returns false'. Refute it at one input. -/
def fnExactPadWriteWrong : ChangeSpec := { name := "fnExactPadWrite", fn := fun _ => fun
  | [d1, d2, d3, d4] => { results := [.lit (.bool false)], args := [d1, d2, d3, d4] }
  | _ => none }
def FnExactPadWriteWrongFalsely : Prop := fnExactPadWriteRow.holds Try.pinned (OpenSpec.ofChange fnExactPadWriteWrong)

/-- 'laws.FnExactPadRead': WHATEVER THE INPUT: true; the input reads as it did. -/
def fnExactPadReadSpec : ChangeSpec := { name := "fnExactPadRead", fn := fun _ => fun
  | [d1, d2, d3] => { results := [.lit (.bool true)], args := [d1, d2, d3] }
  | _ => none }
def fnExactPadReadRow : OpenClaim := { program := "ytpaedkefmebjjaq", sum := "8798bf5623241d7c5ec1707ba07aa50359816be1a163f26dd3e88c7715c5fbd0", func := "loop.example/g00231/laws.FnExactPadRead", spec := "fnExactPadRead", unfollowed := true, recurses := true, apart := false }
def FnExactPadReadSaid : Prop := fnExactPadReadRow.holds Try.pinned (OpenSpec.ofChange fnExactPadReadSpec)

/-- ITS FALSE NEIGHBOUR: 'it returns false'. Refute it at one input. -/
def fnExactPadReadWrong : ChangeSpec := { name := "fnExactPadRead", fn := fun _ => fun
  | [d1, d2, d3] => { results := [.lit (.bool false)], args := [d1, d2, d3] }
  | _ => none }
def FnExactPadReadWrongFalsely : Prop := fnExactPadReadRow.holds Try.pinned (OpenSpec.ofChange fnExactPadReadWrong)

/- THE SECOND FORM. 'bulk': how many values and letters a reading holds, each counted each time it is reached (what is shared counts as often as it is met; a slice's spare places count too). A statement '..UptoSaid' is the law's where the arguments, and the package variables that the reading takes, are together of bulk at most 1048576: NARROWER than '..Said'. Prove '..Said' where nothing that the law and all that it calls make is longer than what came in: it says more and counts as full. Else prove '..UptoSaid'. A law counts once. -/
mutual
def uptoBulk {H : Type} : DataW H → Nat
  | .lit (.string bytes) => bytes.length + 1
  | .lit _ => 1
  | .nil => 1
  | .ptr d => uptoBulk d + 1
  | .slice elems spare => uptoBulkAll elems + uptoBulkAll spare + 1
  | .agg parts => uptoBulkAll parts + 1
  | .iface _ d => uptoBulk d + 1
  | .map entries => uptoBulkEntries entries + 1
  | .held _ => 1
def uptoBulkAll {H : Type} : List (DataW H) → Nat
  | [] => 0
  | d :: r => uptoBulk d + uptoBulkAll r
def uptoBulkEntries {H : Type} : List (Lit × DataW H) → Nat
  | [] => 0
  | x :: r => uptoBulkEntry x + uptoBulkEntries r
def uptoBulkEntry {H : Type} : Lit × DataW H → Nat
  | (.string bytes, d) => bytes.length + uptoBulk d + 1
  | (_, d) => uptoBulk d + 1
 end
def uptoSmall : (H : Type) → List (DataW H) → Bool := fun _ ds => decide (uptoBulkAll ds ≤ 1048576)
def OpenSpec.upto (s : _root_.Go.ChangeSpec) : _root_.Go.OpenSpec := { _root_.Go.OpenSpec.ofChange s with cond := some uptoSmall }

/-- 'laws.FnExactBeatIn', WHERE WHAT IT READS IS OF BULK AT MOST 1048576: true; the input reads as it did. -/
def fnExactBeatInUptoRow : OpenClaim := { program := "ytpaedkefmebjjaq", sum := "8798bf5623241d7c5ec1707ba07aa50359816be1a163f26dd3e88c7715c5fbd0", func := "loop.example/g00231/laws.FnExactBeatIn", spec := "fnExactBeatIn", apart := false, narrowed := true }
def FnExactBeatInUptoSaid : Prop := fnExactBeatInUptoRow.holds Try.pinned (OpenSpec.upto fnExactBeatInSpec)

/-- 'laws.FnExactPadsOk', WHERE WHAT IT READS IS OF BULK AT MOST 1048576: true; the input reads as it did. -/
def fnExactPadsOkUptoRow : OpenClaim := { program := "ytpaedkefmebjjaq", sum := "8798bf5623241d7c5ec1707ba07aa50359816be1a163f26dd3e88c7715c5fbd0", func := "loop.example/g00231/laws.FnExactPadsOk", spec := "fnExactPadsOk", apart := false, narrowed := true }
def FnExactPadsOkUptoSaid : Prop := fnExactPadsOkUptoRow.holds Try.pinned (OpenSpec.upto fnExactPadsOkSpec)

/-- 'laws.FnExactPadAt', WHERE WHAT IT READS IS OF BULK AT MOST 1048576: true; the input reads as it did. -/
def fnExactPadAtUptoRow : OpenClaim := { program := "ytpaedkefmebjjaq", sum := "8798bf5623241d7c5ec1707ba07aa50359816be1a163f26dd3e88c7715c5fbd0", func := "loop.example/g00231/laws.FnExactPadAt", spec := "fnExactPadAt", apart := false, narrowed := true }
def FnExactPadAtUptoSaid : Prop := fnExactPadAtUptoRow.holds Try.pinned (OpenSpec.upto fnExactPadAtSpec)

/-- 'laws.FnExactPadWrite', WHERE WHAT IT READS IS OF BULK AT MOST 1048576: true; the input reads as it did. -/
def fnExactPadWriteUptoRow : OpenClaim := { program := "ytpaedkefmebjjaq", sum := "8798bf5623241d7c5ec1707ba07aa50359816be1a163f26dd3e88c7715c5fbd0", func := "loop.example/g00231/laws.FnExactPadWrite", spec := "fnExactPadWrite", apart := false, narrowed := true }
def FnExactPadWriteUptoSaid : Prop := fnExactPadWriteUptoRow.holds Try.pinned (OpenSpec.upto fnExactPadWriteSpec)

/-- 'laws.FnExactPadRead', WHERE WHAT IT READS IS OF BULK AT MOST 1048576: true; the input reads as it did. -/
def fnExactPadReadUptoRow : OpenClaim := { program := "ytpaedkefmebjjaq", sum := "8798bf5623241d7c5ec1707ba07aa50359816be1a163f26dd3e88c7715c5fbd0", func := "loop.example/g00231/laws.FnExactPadRead", spec := "fnExactPadRead", unfollowed := true, recurses := true, apart := false, narrowed := true }
def FnExactPadReadUptoSaid : Prop := fnExactPadReadUptoRow.holds Try.pinned (OpenSpec.upto fnExactPadReadSpec)

end Rows
end Go.Proofs.Ytpaedkefmebjjaq
