/-
  No cell of these rows narrows 'for every input' (looked for: loops, veiled, ifaces, maps, wideKeys, modest, calm, conditions, laid).
  DERIVED. THE GIVEN ROWS OF THIS SEAT. 6 by the template 'for every input the law returns true; each argument reads behind the call as it read before'; 0 by the template 'total and deterministic' (their statements: YtpaedkefmebjjamTotals.lean).
  GIVEN WITH THE SEED: the statements are not yours to turn. If you find one false, say at which input.
  Laid BY PROGRAM, IN A SANDBOX (cutbox-rows.mjs): the forced cells as the released guide's own fill.sh prints them over the translation 73d6e2f55615d2a2… (all of the seat's roots in one cut). By AI agents, Wed Nov 11 2026. No macro, syntax, notation, axiom, sorry.
-/
import Derived.Test.YtpaedkefmebjjamChecked
import GoSem.Claim
import GoSem.ClaimJoined
import GoSem.ClaimMapViews
import Derived.JoinedTies
import Derived.KernelRfl
namespace Go.Proofs.Ytpaedkefmebjjam
/- THE CELL 'sum', in the pinned program and in every row, IS THE sha256 OF THE DUMP (.gsa) THAT YtpaedkefmebjjamProg.lean LOADS. Nothing in Lean hashes anything: it is a label: what it is worth is what the hold of that sum in a sandbox is worth. -/
noncomputable def Try.pinned : Pinned := { name := "ytpaedkefmebjjam", sum := "73d6e2f55615d2a2f631e021e550ce8acec63c9a5fb38f8ca6e425ed2e88083c", checked := Try.checked }
namespace Rows
def none {H : Type} : Left H := { results := [], args := [] }

/-- 'laws.FnExactMemOk': WHATEVER THE INPUT: true; the input reads as it did. -/
def fnExactMemOkSpec : ChangeSpec := { name := "fnExactMemOk", fn := fun _ => fun
  | [d1, d2] => { results := [.lit (.bool true)], args := [d1, d2] }
  | _ => none }
def fnExactMemOkRow : OpenClaim := { program := "ytpaedkefmebjjam", sum := "73d6e2f55615d2a2f631e021e550ce8acec63c9a5fb38f8ca6e425ed2e88083c", func := "loop.example/g00231/laws.FnExactMemOk", spec := "fnExactMemOk", apart := false }
def FnExactMemOkSaid : Prop := fnExactMemOkRow.holds Try.pinned (OpenSpec.ofChange fnExactMemOkSpec)

/-- ITS FALSE NEIGHBOUR: 'it returns false'. Refute it at one input. -/
def fnExactMemOkWrong : ChangeSpec := { name := "fnExactMemOk", fn := fun _ => fun
  | [d1, d2] => { results := [.lit (.bool false)], args := [d1, d2] }
  | _ => none }
def FnExactMemOkWrongFalsely : Prop := fnExactMemOkRow.holds Try.pinned (OpenSpec.ofChange fnExactMemOkWrong)

/-- 'laws.FnExactMemNew': WHATEVER THE INPUT: true; the input reads as it did. -/
def fnExactMemNewSpec : ChangeSpec := { name := "fnExactMemNew", fn := fun _ => fun
  | [] => { results := [.lit (.bool true)], args := [] }
  | _ => none }
def fnExactMemNewRow : OpenClaim := { program := "ytpaedkefmebjjam", sum := "73d6e2f55615d2a2f631e021e550ce8acec63c9a5fb38f8ca6e425ed2e88083c", func := "loop.example/g00231/laws.FnExactMemNew", spec := "fnExactMemNew", apart := false }
def FnExactMemNewSaid : Prop := fnExactMemNewRow.holds Try.pinned (OpenSpec.ofChange fnExactMemNewSpec)

/-- ITS FALSE NEIGHBOUR: 'it returns false'. Refute it at one input. -/
def fnExactMemNewWrong : ChangeSpec := { name := "fnExactMemNew", fn := fun _ => fun
  | [] => { results := [.lit (.bool false)], args := [] }
  | _ => none }
def FnExactMemNewWrongFalsely : Prop := fnExactMemNewRow.holds Try.pinned (OpenSpec.ofChange fnExactMemNewWrong)

/-- 'laws.FnExactRegion': WHATEVER THE INPUT: true; the input reads as it did. -/
def fnExactRegionSpec : ChangeSpec := { name := "fnExactRegion", fn := fun _ => fun
  | [d] => { results := [.lit (.bool true)], args := [d] }
  | _ => none }
def fnExactRegionRow : OpenClaim := { program := "ytpaedkefmebjjam", sum := "73d6e2f55615d2a2f631e021e550ce8acec63c9a5fb38f8ca6e425ed2e88083c", func := "loop.example/g00231/laws.FnExactRegion", spec := "fnExactRegion", unfollowed := true, recurses := true, apart := false }
def FnExactRegionSaid : Prop := fnExactRegionRow.holds Try.pinned (OpenSpec.ofChange fnExactRegionSpec)

/-- ITS FALSE NEIGHBOUR: 'it returns false'. Refute it at one input. -/
def fnExactRegionWrong : ChangeSpec := { name := "fnExactRegion", fn := fun _ => fun
  | [d] => { results := [.lit (.bool false)], args := [d] }
  | _ => none }
def FnExactRegionWrongFalsely : Prop := fnExactRegionRow.holds Try.pinned (OpenSpec.ofChange fnExactRegionWrong)

/-- 'laws.FnExactPeek': WHATEVER THE INPUT: true; the input reads as it did. -/
def fnExactPeekSpec : ChangeSpec := { name := "fnExactPeek", fn := fun _ => fun
  | [d1, d2, d3] => { results := [.lit (.bool true)], args := [d1, d2, d3] }
  | _ => none }
def fnExactPeekRow : OpenClaim := { program := "ytpaedkefmebjjam", sum := "73d6e2f55615d2a2f631e021e550ce8acec63c9a5fb38f8ca6e425ed2e88083c", func := "loop.example/g00231/laws.FnExactPeek", spec := "fnExactPeek", unfollowed := true, recurses := true, apart := false }
def FnExactPeekSaid : Prop := fnExactPeekRow.holds Try.pinned (OpenSpec.ofChange fnExactPeekSpec)

/-- ITS FALSE NEIGHBOUR: 'it returns false'. Refute it at one input. -/
def fnExactPeekWrong : ChangeSpec := { name := "fnExactPeek", fn := fun _ => fun
  | [d1, d2, d3] => { results := [.lit (.bool false)], args := [d1, d2, d3] }
  | _ => none }
def FnExactPeekWrongFalsely : Prop := fnExactPeekRow.holds Try.pinned (OpenSpec.ofChange fnExactPeekWrong)

/-- 'laws.FnExactPoke': WHATEVER THE INPUT: true; the input reads as it did. -/
def fnExactPokeSpec : ChangeSpec := { name := "fnExactPoke", fn := fun _ => fun
  | [d1, d2, d3, d4] => { results := [.lit (.bool true)], args := [d1, d2, d3, d4] }
  | _ => none }
def fnExactPokeRow : OpenClaim := { program := "ytpaedkefmebjjam", sum := "73d6e2f55615d2a2f631e021e550ce8acec63c9a5fb38f8ca6e425ed2e88083c", func := "loop.example/g00231/laws.FnExactPoke", spec := "fnExactPoke", unfollowed := true, recurses := true, apart := false }
def FnExactPokeSaid : Prop := fnExactPokeRow.holds Try.pinned (OpenSpec.ofChange fnExactPokeSpec)

/-- ITS FALSE NEIGHBOUR: 'it returns false'. Refute it at one input. -/
def fnExactPokeWrong : ChangeSpec := { name := "fnExactPoke", fn := fun _ => fun
  | [d1, d2, d3, d4] => { results := [.lit (.bool false)], args := [d1, d2, d3, d4] }
  | _ => none }
def FnExactPokeWrongFalsely : Prop := fnExactPokeRow.holds Try.pinned (OpenSpec.ofChange fnExactPokeWrong)

/-- 'laws.FnExactPush': WHATEVER THE INPUT: true; the input reads as it did. -/
def fnExactPushSpec : ChangeSpec := { name := "fnExactPush", fn := fun _ => fun
  | [d1, d2, d3] => { results := [.lit (.bool true)], args := [d1, d2, d3] }
  | _ => none }
def fnExactPushRow : OpenClaim := { program := "ytpaedkefmebjjam", sum := "73d6e2f55615d2a2f631e021e550ce8acec63c9a5fb38f8ca6e425ed2e88083c", func := "loop.example/g00231/laws.FnExactPush", spec := "fnExactPush", apart := false }
def FnExactPushSaid : Prop := fnExactPushRow.holds Try.pinned (OpenSpec.ofChange fnExactPushSpec)

/-- ITS FALSE NEIGHBOUR: 'it returns false'. Refute it at one input. -/
def fnExactPushWrong : ChangeSpec := { name := "fnExactPush", fn := fun _ => fun
  | [d1, d2, d3] => { results := [.lit (.bool false)], args := [d1, d2, d3] }
  | _ => none }
def FnExactPushWrongFalsely : Prop := fnExactPushRow.holds Try.pinned (OpenSpec.ofChange fnExactPushWrong)

/- THE SECOND FORM. 'bulk': how many values and letters a reading holds, each counted each time it is reached (what is shared counts as often as it is met; a slice's spare places count too). A statement '..UptoSaid' is the law's where the arguments, and the package variables that the reading takes, are together of bulk at most 1048576: NARROWER than '..Said'. Prove '..Said' where nothing that the law and all that it calls make is longer than what came in: it says more and counts as full. Else prove '..UptoSaid'. A law counts once. -/
mutual
def uptoBulk {H : Type} : DataW H → Nat
  | .lit (.string bytes) => bytes.length + 1
  | .lit _ => 1
  | .nil => 1
  | .ptr d => uptoBulk d + 1
  | .slice elems spare => uptoBulkAll elems + uptoBulkAll spare + 1
  | .agg parts => uptoBulkAll parts + 1
  | .iface _ d => uptoBulk d + 1
  | .map entries => uptoBulkEntries entries + 1
  | .held _ => 1
def uptoBulkAll {H : Type} : List (DataW H) → Nat
  | [] => 0
  | d :: r => uptoBulk d + uptoBulkAll r
def uptoBulkEntries {H : Type} : List (Lit × DataW H) → Nat
  | [] => 0
  | x :: r => uptoBulkEntry x + uptoBulkEntries r
def uptoBulkEntry {H : Type} : Lit × DataW H → Nat
  | (.string bytes, d) => bytes.length + uptoBulk d + 1
  | (_, d) => uptoBulk d + 1
 end
def uptoSmall : (H : Type) → List (DataW H) → Bool := fun _ ds => decide (uptoBulkAll ds ≤ 1048576)
def OpenSpec.upto (s : _root_.Go.ChangeSpec) : _root_.Go.OpenSpec := { _root_.Go.OpenSpec.ofChange s with cond := some uptoSmall }

/-- 'laws.FnExactMemOk', WHERE WHAT IT READS IS OF BULK AT MOST 1048576: true; the input reads as it did. -/
def fnExactMemOkUptoRow : OpenClaim := { program := "ytpaedkefmebjjam", sum := "73d6e2f55615d2a2f631e021e550ce8acec63c9a5fb38f8ca6e425ed2e88083c", func := "loop.example/g00231/laws.FnExactMemOk", spec := "fnExactMemOk", apart := false, narrowed := true }
def FnExactMemOkUptoSaid : Prop := fnExactMemOkUptoRow.holds Try.pinned (OpenSpec.upto fnExactMemOkSpec)

/-- 'laws.FnExactMemNew', WHERE WHAT IT READS IS OF BULK AT MOST 1048576: true; the input reads as it did. -/
def fnExactMemNewUptoRow : OpenClaim := { program := "ytpaedkefmebjjam", sum := "73d6e2f55615d2a2f631e021e550ce8acec63c9a5fb38f8ca6e425ed2e88083c", func := "loop.example/g00231/laws.FnExactMemNew", spec := "fnExactMemNew", apart := false, narrowed := true }
def FnExactMemNewUptoSaid : Prop := fnExactMemNewUptoRow.holds Try.pinned (OpenSpec.upto fnExactMemNewSpec)

/-- 'laws.FnExactRegion', WHERE WHAT IT READS IS OF BULK AT MOST 1048576: true; the input reads as it did. -/
def fnExactRegionUptoRow : OpenClaim := { program := "ytpaedkefmebjjam", sum := "73d6e2f55615d2a2f631e021e550ce8acec63c9a5fb38f8ca6e425ed2e88083c", func := "loop.example/g00231/laws.FnExactRegion", spec := "fnExactRegion", unfollowed := true, recurses := true, apart := false, narrowed := true }
def FnExactRegionUptoSaid : Prop := fnExactRegionUptoRow.holds Try.pinned (OpenSpec.upto fnExactRegionSpec)

/-- 'laws.FnExactPeek', WHERE WHAT IT READS IS OF BULK AT MOST 1048576: true; the input reads as it did. -/
def fnExactPeekUptoRow : OpenClaim := { program := "ytpaedkefmebjjam", sum := "73d6e2f55615d2a2f631e021e550ce8acec63c9a5fb38f8ca6e425ed2e88083c", func := "loop.example/g00231/laws.FnExactPeek", spec := "fnExactPeek", unfollowed := true, recurses := true, apart := false, narrowed := true }
def FnExactPeekUptoSaid : Prop := fnExactPeekUptoRow.holds Try.pinned (OpenSpec.upto fnExactPeekSpec)

/-- 'laws.FnExactPoke', WHERE WHAT IT READS IS OF BULK AT MOST 1048576: true; the input reads as it did. -/
def fnExactPokeUptoRow : OpenClaim := { program := "ytpaedkefmebjjam", sum := "73d6e2f55615d2a2f631e021e550ce8acec63c9a5fb38f8ca6e425ed2e88083c", func := "loop.example/g00231/laws.FnExactPoke", spec := "fnExactPoke", unfollowed := true, recurses := true, apart := false, narrowed := true }
def FnExactPokeUptoSaid : Prop := fnExactPokeUptoRow.holds Try.pinned (OpenSpec.upto fnExactPokeSpec)

/-- 'laws.FnExactPush', WHERE WHAT IT READS IS OF BULK AT MOST 1048576: true; the input reads as it did. -/
def fnExactPushUptoRow : OpenClaim := { program := "ytpaedkefmebjjam", sum := "73d6e2f55615d2a2f631e021e550ce8acec63c9a5fb38f8ca6e425ed2e88083c", func := "loop.example/g00231/laws.FnExactPush", spec := "fnExactPush", apart := false, narrowed := true }
def FnExactPushUptoSaid : Prop := fnExactPushUptoRow.holds Try.pinned (OpenSpec.upto fnExactPushSpec)

end Rows
end Go.Proofs.Ytpaedkefmebjjam
