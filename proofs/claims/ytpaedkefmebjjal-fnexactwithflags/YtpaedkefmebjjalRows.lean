/-
  No cell of these rows narrows 'for every input' (looked for: loops, veiled, ifaces, maps, wideKeys, modest, calm, conditions, laid).
  DERIVED. THE GIVEN ROWS OF THIS SEAT. 5 by the template 'for every input the law returns true; each argument reads behind the call as it read before'; 0 by the template 'total and deterministic' (their statements: YtpaedkefmebjjalTotals.lean).
  GIVEN WITH THE SEED: the statements are not yours to turn. If you find one false, say at which input.
  Laid BY PROGRAM, IN A SANDBOX (cutbox-rows.mjs): the forced cells as the released guide's own fill.sh prints them over the translation f3bd6c5817366a97… (all of the seat's roots in one cut). By AI agents, Wed Nov 11 2026. No macro, syntax, notation, axiom, sorry.
-/
import Derived.Test.YtpaedkefmebjjalChecked
import GoSem.Claim
import GoSem.ClaimJoined
import GoSem.ClaimMapViews
import Derived.JoinedTies
import Derived.KernelRfl
namespace Go.Proofs.Ytpaedkefmebjjal
/- THE CELL 'sum', in the pinned program and in every row, IS THE sha256 OF THE DUMP (.gsa) THAT YtpaedkefmebjjalProg.lean LOADS. Nothing in Lean hashes anything: it is a label: what it is worth is what the hold of that sum in a sandbox is worth. -/
noncomputable def Try.pinned : Pinned := { name := "ytpaedkefmebjjal", sum := "f3bd6c5817366a9731d9b2a1a857d37d90b6ed3f2b865425b98c60a8bd3c643e", checked := Try.checked }
namespace Rows
def none {H : Type} : Left H := { results := [], args := [] }

/-- 'laws.FnExactCpuOk': WHATEVER THE INPUT: true; the input reads as it did. -/
def fnExactCpuOkSpec : ChangeSpec := { name := "fnExactCpuOk", fn := fun _ => fun
  | [d] => { results := [.lit (.bool true)], args := [d] }
  | _ => none }
def fnExactCpuOkRow : OpenClaim := { program := "ytpaedkefmebjjal", sum := "f3bd6c5817366a9731d9b2a1a857d37d90b6ed3f2b865425b98c60a8bd3c643e", func := "loop.example/g00231/laws.FnExactCpuOk", spec := "fnExactCpuOk", apart := false }
def FnExactCpuOkSaid : Prop := fnExactCpuOkRow.holds Try.pinned (OpenSpec.ofChange fnExactCpuOkSpec)

/-- ITS FALSE NEIGHBOUR: 'it returns false'. Refute it at one input. -/
def fnExactCpuOkWrong : ChangeSpec := { name := "fnExactCpuOk", fn := fun _ => fun
  | [d] => { results := [.lit (.bool false)], args := [d] }
  | _ => none }
def FnExactCpuOkWrongFalsely : Prop := fnExactCpuOkRow.holds Try.pinned (OpenSpec.ofChange fnExactCpuOkWrong)

/-- 'laws.FnExactFlags': WHATEVER THE INPUT: true; the input reads as it did. -/
def fnExactFlagsSpec : ChangeSpec := { name := "fnExactFlags", fn := fun _ => fun
  | [d] => { results := [.lit (.bool true)], args := [d] }
  | _ => none }
def fnExactFlagsRow : OpenClaim := { program := "ytpaedkefmebjjal", sum := "f3bd6c5817366a9731d9b2a1a857d37d90b6ed3f2b865425b98c60a8bd3c643e", func := "loop.example/g00231/laws.FnExactFlags", spec := "fnExactFlags", apart := false }
def FnExactFlagsSaid : Prop := fnExactFlagsRow.holds Try.pinned (OpenSpec.ofChange fnExactFlagsSpec)

/-- ITS FALSE NEIGHBOUR: 'it returns false'. Refute it at one input. -/
def fnExactFlagsWrong : ChangeSpec := { name := "fnExactFlags", fn := fun _ => fun
  | [d] => { results := [.lit (.bool false)], args := [d] }
  | _ => none }
def FnExactFlagsWrongFalsely : Prop := fnExactFlagsRow.holds Try.pinned (OpenSpec.ofChange fnExactFlagsWrong)

/-- 'laws.FnExactWithFlags': WHATEVER THE INPUT: true; the input reads as it did. -/
def fnExactWithFlagsSpec : ChangeSpec := { name := "fnExactWithFlags", fn := fun _ => fun
  | [d1, d2] => { results := [.lit (.bool true)], args := [d1, d2] }
  | _ => none }
def fnExactWithFlagsRow : OpenClaim := { program := "ytpaedkefmebjjal", sum := "f3bd6c5817366a9731d9b2a1a857d37d90b6ed3f2b865425b98c60a8bd3c643e", func := "loop.example/g00231/laws.FnExactWithFlags", spec := "fnExactWithFlags", apart := false }
def FnExactWithFlagsSaid : Prop := fnExactWithFlagsRow.holds Try.pinned (OpenSpec.ofChange fnExactWithFlagsSpec)

/-- ITS FALSE NEIGHBOUR: 'it returns false'. Refute it at one input. -/
def fnExactWithFlagsWrong : ChangeSpec := { name := "fnExactWithFlags", fn := fun _ => fun
  | [d1, d2] => { results := [.lit (.bool false)], args := [d1, d2] }
  | _ => none }
def FnExactWithFlagsWrongFalsely : Prop := fnExactWithFlagsRow.holds Try.pinned (OpenSpec.ofChange fnExactWithFlagsWrong)

/-- 'laws.FnExactSetA': WHATEVER THE INPUT: true; the input reads as it did. -/
def fnExactSetASpec : ChangeSpec := { name := "fnExactSetA", fn := fun _ => fun
  | [d1, d2] => { results := [.lit (.bool true)], args := [d1, d2] }
  | _ => none }
def fnExactSetARow : OpenClaim := { program := "ytpaedkefmebjjal", sum := "f3bd6c5817366a9731d9b2a1a857d37d90b6ed3f2b865425b98c60a8bd3c643e", func := "loop.example/g00231/laws.FnExactSetA", spec := "fnExactSetA", apart := false }
def FnExactSetASaid : Prop := fnExactSetARow.holds Try.pinned (OpenSpec.ofChange fnExactSetASpec)

/-- ITS FALSE NEIGHBOUR: 'it returns false'. Refute it at one input. -/
def fnExactSetAWrong : ChangeSpec := { name := "fnExactSetA", fn := fun _ => fun
  | [d1, d2] => { results := [.lit (.bool false)], args := [d1, d2] }
  | _ => none }
def FnExactSetAWrongFalsely : Prop := fnExactSetARow.holds Try.pinned (OpenSpec.ofChange fnExactSetAWrong)

/-- 'laws.FnExactSetX': WHATEVER THE INPUT: true; the input reads as it did. -/
def fnExactSetXSpec : ChangeSpec := { name := "fnExactSetX", fn := fun _ => fun
  | [d1, d2] => { results := [.lit (.bool true)], args := [d1, d2] }
  | _ => none }
def fnExactSetXRow : OpenClaim := { program := "ytpaedkefmebjjal", sum := "f3bd6c5817366a9731d9b2a1a857d37d90b6ed3f2b865425b98c60a8bd3c643e", func := "loop.example/g00231/laws.FnExactSetX", spec := "fnExactSetX", apart := false }
def FnExactSetXSaid : Prop := fnExactSetXRow.holds Try.pinned (OpenSpec.ofChange fnExactSetXSpec)

/-- ITS FALSE NEIGHBOUR: 'it returns false'. Refute it at one input. -/
def fnExactSetXWrong : ChangeSpec := { name := "fnExactSetX", fn := fun _ => fun
  | [d1, d2] => { results := [.lit (.bool false)], args := [d1, d2] }
  | _ => none }
def FnExactSetXWrongFalsely : Prop := fnExactSetXRow.holds Try.pinned (OpenSpec.ofChange fnExactSetXWrong)

/- THE SECOND FORM. 'bulk': how many values and letters a reading holds, each counted each time it is reached (what is shared counts as often as it is met; a slice's spare places count too). A statement '..UptoSaid' is the law's where the arguments, and the package variables that the reading takes, are together of bulk at most 1048576: NARROWER than '..Said'. Prove '..Said' where nothing that the law and all that it calls make is longer than what came in: it says more and counts as full. Else prove '..UptoSaid'. A law counts once. -/
mutual
def uptoBulk {H : Type} : DataW H → Nat
  | .lit (.string bytes) => bytes.length + 1
  | .lit _ => 1
  | .nil => 1
  | .ptr d => uptoBulk d + 1
  | .slice elems spare => uptoBulkAll elems + uptoBulkAll spare + 1
  | .agg parts => uptoBulkAll parts + 1
  | .iface _ d => uptoBulk d + 1
  | .map entries => uptoBulkEntries entries + 1
  | .held _ => 1
def uptoBulkAll {H : Type} : List (DataW H) → Nat
  | [] => 0
  | d :: r => uptoBulk d + uptoBulkAll r
def uptoBulkEntries {H : Type} : List (Lit × DataW H) → Nat
  | [] => 0
  | x :: r => uptoBulkEntry x + uptoBulkEntries r
def uptoBulkEntry {H : Type} : Lit × DataW H → Nat
  | (.string bytes, d) => bytes.length + uptoBulk d + 1
  | (_, d) => uptoBulk d + 1
 end
def uptoSmall : (H : Type) → List (DataW H) → Bool := fun _ ds => decide (uptoBulkAll ds ≤ 1048576)
def OpenSpec.upto (s : _root_.Go.ChangeSpec) : _root_.Go.OpenSpec := { _root_.Go.OpenSpec.ofChange s with cond := some uptoSmall }

/-- 'laws.FnExactCpuOk', WHERE WHAT IT READS IS OF BULK AT MOST 1048576: true; the input reads as it did. -/
def fnExactCpuOkUptoRow : OpenClaim := { program := "ytpaedkefmebjjal", sum := "f3bd6c5817366a9731d9b2a1a857d37d90b6ed3f2b865425b98c60a8bd3c643e", func := "loop.example/g00231/laws.FnExactCpuOk", spec := "fnExactCpuOk", apart := false, narrowed := true }
def FnExactCpuOkUptoSaid : Prop := fnExactCpuOkUptoRow.holds Try.pinned (OpenSpec.upto fnExactCpuOkSpec)

/-- 'laws.FnExactFlags', WHERE WHAT IT READS IS OF BULK AT MOST 1048576: true; the input reads as it did. -/
def fnExactFlagsUptoRow : OpenClaim := { program := "ytpaedkefmebjjal", sum := "f3bd6c5817366a9731d9b2a1a857d37d90b6ed3f2b865425b98c60a8bd3c643e", func := "loop.example/g00231/laws.FnExactFlags", spec := "fnExactFlags", apart := false, narrowed := true }
def FnExactFlagsUptoSaid : Prop := fnExactFlagsUptoRow.holds Try.pinned (OpenSpec.upto fnExactFlagsSpec)

/-- 'laws.FnExactWithFlags', WHERE WHAT IT READS IS OF BULK AT MOST 1048576: true; the input reads as it did. -/
def fnExactWithFlagsUptoRow : OpenClaim := { program := "ytpaedkefmebjjal", sum := "f3bd6c5817366a9731d9b2a1a857d37d90b6ed3f2b865425b98c60a8bd3c643e", func := "loop.example/g00231/laws.FnExactWithFlags", spec := "fnExactWithFlags", apart := false, narrowed := true }
def FnExactWithFlagsUptoSaid : Prop := fnExactWithFlagsUptoRow.holds Try.pinned (OpenSpec.upto fnExactWithFlagsSpec)

/-- 'laws.FnExactSetA', WHERE WHAT IT READS IS OF BULK AT MOST 1048576: true; the input reads as it did. -/
def fnExactSetAUptoRow : OpenClaim := { program := "ytpaedkefmebjjal", sum := "f3bd6c5817366a9731d9b2a1a857d37d90b6ed3f2b865425b98c60a8bd3c643e", func := "loop.example/g00231/laws.FnExactSetA", spec := "fnExactSetA", apart := false, narrowed := true }
def FnExactSetAUptoSaid : Prop := fnExactSetAUptoRow.holds Try.pinned (OpenSpec.upto fnExactSetASpec)

/-- 'laws.FnExactSetX', WHERE WHAT IT READS IS OF BULK AT MOST 1048576: true; the input reads as it did. -/
def fnExactSetXUptoRow : OpenClaim := { program := "ytpaedkefmebjjal", sum := "f3bd6c5817366a9731d9b2a1a857d37d90b6ed3f2b865425b98c60a8bd3c643e", func := "loop.example/g00231/laws.FnExactSetX", spec := "fnExactSetX", apart := false, narrowed := true }
def FnExactSetXUptoSaid : Prop := fnExactSetXUptoRow.holds Try.pinned (OpenSpec.upto fnExactSetXSpec)

end Rows
end Go.Proofs.Ytpaedkefmebjjal
