/-
  No cell of these rows narrows 'for every input' (looked for: loops, veiled, ifaces, maps, wideKeys, modest, calm, conditions, laid).
  DERIVED. THE GIVEN ROWS OF THIS SEAT. 6 by the template 'for every input the law returns true; each argument reads behind the call as it read before'; 0 by the template 'total and deterministic' (their statements: YtpaedkefmebjjaoTotals.lean).
  GIVEN WITH THE SEED: the statements are not yours to turn. If you find one false, say at which input.
  Laid BY PROGRAM, IN A SANDBOX (cutbox-rows.mjs): the forced cells as the released guide's own fill.sh prints them over the translation 64c0d707bfd71754… (all of the seat's roots in one cut). By AI agents, Wed Nov 11 2026. No macro, syntax, notation, axiom, sorry.
-/
import Derived.Test.YtpaedkefmebjjaoChecked
import GoSem.Claim
import GoSem.ClaimJoined
import GoSem.ClaimMapViews
import Derived.JoinedTies
import Derived.KernelRfl
namespace Go.Proofs.Ytpaedkefmebjjao
/- THE CELL 'sum', in the pinned program and in every row, IS THE sha256 OF THE DUMP (.gsa) THAT YtpaedkefmebjjaoProg.lean LOADS. Nothing in Lean hashes anything: it is a label: what it is worth is what the hold of that sum in a sandbox is worth. -/
noncomputable def Try.pinned : Pinned := { name := "ytpaedkefmebjjao", sum := "64c0d707bfd71754ffa5cbdab47a52deba97e49cfc0de325146ddda974c6afd0", checked := Try.checked }
namespace Rows
def none {H : Type} : Left H := { results := [], args := [] }

/-- 'laws.FnExactPpuOk': WHATEVER THE INPUT: true; the input reads as it did. -/
def fnExactPpuOkSpec : ChangeSpec := { name := "fnExactPpuOk", fn := fun _ => fun
  | [d] => { results := [.lit (.bool true)], args := [d] }
  | _ => none }
def fnExactPpuOkRow : OpenClaim := { program := "ytpaedkefmebjjao", sum := "64c0d707bfd71754ffa5cbdab47a52deba97e49cfc0de325146ddda974c6afd0", func := "loop.example/g00231/laws.FnExactPpuOk", spec := "fnExactPpuOk", apart := false }
def FnExactPpuOkSaid : Prop := fnExactPpuOkRow.holds Try.pinned (OpenSpec.ofChange fnExactPpuOkSpec)

/-- ITS FALSE NEIGHBOUR: 'it returns false'. Refute it at one input. -/
def fnExactPpuOkWrong : ChangeSpec := { name := "fnExactPpuOk", fn := fun _ => fun
  | [d] => { results := [.lit (.bool false)], args := [d] }
  | _ => none }
def FnExactPpuOkWrongFalsely : Prop := fnExactPpuOkRow.holds Try.pinned (OpenSpec.ofChange fnExactPpuOkWrong)

/-- 'laws.FnExactPpuNew': WHATEVER THE INPUT: true; the input reads as it did. -/
def fnExactPpuNewSpec : ChangeSpec := { name := "fnExactPpuNew", fn := fun _ => fun
  | [] => { results := [.lit (.bool true)], args := [] }
  | _ => none }
def fnExactPpuNewRow : OpenClaim := { program := "ytpaedkefmebjjao", sum := "64c0d707bfd71754ffa5cbdab47a52deba97e49cfc0de325146ddda974c6afd0", func := "loop.example/g00231/laws.FnExactPpuNew", spec := "fnExactPpuNew", apart := false }
def FnExactPpuNewSaid : Prop := fnExactPpuNewRow.holds Try.pinned (OpenSpec.ofChange fnExactPpuNewSpec)

/-- ITS FALSE NEIGHBOUR: 'it returns false'. Refute it at one input. -/
def fnExactPpuNewWrong : ChangeSpec := { name := "fnExactPpuNew", fn := fun _ => fun
  | [] => { results := [.lit (.bool false)], args := [] }
  | _ => none }
def FnExactPpuNewWrongFalsely : Prop := fnExactPpuNewRow.holds Try.pinned (OpenSpec.ofChange fnExactPpuNewWrong)

/-- 'laws.FnExactDot': WHATEVER THE INPUT: true; the input reads as it did. -/
def fnExactDotSpec : ChangeSpec := { name := "fnExactDot", fn := fun _ => fun
  | [d1, d2] => { results := [.lit (.bool true)], args := [d1, d2] }
  | _ => none }
def fnExactDotRow : OpenClaim := { program := "ytpaedkefmebjjao", sum := "64c0d707bfd71754ffa5cbdab47a52deba97e49cfc0de325146ddda974c6afd0", func := "loop.example/g00231/laws.FnExactDot", spec := "fnExactDot", unfollowed := true, recurses := true, apart := false }
def FnExactDotSaid : Prop := fnExactDotRow.holds Try.pinned (OpenSpec.ofChange fnExactDotSpec)

/-- ITS FALSE NEIGHBOUR: 'it returns false'. Refute it at one input. -/
def fnExactDotWrong : ChangeSpec := { name := "fnExactDot", fn := fun _ => fun
  | [d1, d2] => { results := [.lit (.bool false)], args := [d1, d2] }
  | _ => none }
def FnExactDotWrongFalsely : Prop := fnExactDotRow.holds Try.pinned (OpenSpec.ofChange fnExactDotWrong)

/-- 'laws.FnExactPpuTick': WHATEVER THE INPUT: true; the input reads as it did. -/
def fnExactPpuTickSpec : ChangeSpec := { name := "fnExactPpuTick", fn := fun _ => fun
  | [d] => { results := [.lit (.bool true)], args := [d] }
  | _ => none }
def fnExactPpuTickRow : OpenClaim := { program := "ytpaedkefmebjjao", sum := "64c0d707bfd71754ffa5cbdab47a52deba97e49cfc0de325146ddda974c6afd0", func := "loop.example/g00231/laws.FnExactPpuTick", spec := "fnExactPpuTick", unfollowed := true, recurses := true, apart := false }
def FnExactPpuTickSaid : Prop := fnExactPpuTickRow.holds Try.pinned (OpenSpec.ofChange fnExactPpuTickSpec)

/-- ITS FALSE NEIGHBOUR: 'it returns false'. Refute it at one input. -/
def fnExactPpuTickWrong : ChangeSpec := { name := "fnExactPpuTick", fn := fun _ => fun
  | [d] => { results := [.lit (.bool false)], args := [d] }
  | _ => none }
def FnExactPpuTickWrongFalsely : Prop := fnExactPpuTickRow.holds Try.pinned (OpenSpec.ofChange fnExactPpuTickWrong)

/-- 'laws.FnExactPpuWrite': WHATEVER THE INPUT: true; the input reads as it did. -/
def fnExactPpuWriteSpec : ChangeSpec := { name := "fnExactPpuWrite", fn := fun _ => fun
  | [d1, d2, d3] => { results := [.lit (.bool true)], args := [d1, d2, d3] }
  | _ => none }
def fnExactPpuWriteRow : OpenClaim := { program := "ytpaedkefmebjjao", sum := "64c0d707bfd71754ffa5cbdab47a52deba97e49cfc0de325146ddda974c6afd0", func := "loop.example/g00231/laws.FnExactPpuWrite", spec := "fnExactPpuWrite", apart := false }
def FnExactPpuWriteSaid : Prop := fnExactPpuWriteRow.holds Try.pinned (OpenSpec.ofChange fnExactPpuWriteSpec)

/-- ITS FALSE NEIGHBOUR: 'it returns false'. Refute it at one input. -/
def fnExactPpuWriteWrong : ChangeSpec := { name := "fnExactPpuWrite", fn := fun _ => fun
  | [d1, d2, d3] => { results := [.lit (.bool false)], args := [d1, d2, d3] }
  | _ => none }
def FnExactPpuWriteWrongFalsely : Prop := fnExactPpuWriteRow.holds Try.pinned (OpenSpec.ofChange fnExactPpuWriteWrong)

/-- 'laws.FnExactPpuRead': WHATEVER THE INPUT: true; the input reads as it did. -/
def fnExactPpuReadSpec : ChangeSpec := { name := "fnExactPpuRead", fn := fun _ => fun
  | [d1, d2] => { results := [.lit (.bool true)], args := [d1, d2] }
  | _ => none }
def fnExactPpuReadRow : OpenClaim := { program := "ytpaedkefmebjjao", sum := "64c0d707bfd71754ffa5cbdab47a52deba97e49cfc0de325146ddda974c6afd0", func := "loop.example/g00231/laws.FnExactPpuRead", spec := "fnExactPpuRead", apart := false }
def FnExactPpuReadSaid : Prop := fnExactPpuReadRow.holds Try.pinned (OpenSpec.ofChange fnExactPpuReadSpec)

/-- ITS FALSE NEIGHBOUR: 'it returns false'. Refute it at one input. -/
def fnExactPpuReadWrong : ChangeSpec := { name := "fnExactPpuRead", fn := fun _ => fun
  | [d1, d2] => { results := [.lit (.bool false)], args := [d1, d2] }
  | _ => none }
def FnExactPpuReadWrongFalsely : Prop := fnExactPpuReadRow.holds Try.pinned (OpenSpec.ofChange fnExactPpuReadWrong)

/- THE SECOND FORM. 'bulk': how many values and letters a reading holds, each counted each time it is reached (what is shared counts as often as it is met; a slice's spare places count too). A statement '..UptoSaid' is the law's where the arguments, and the package variables that the reading takes, are together of bulk at most 1048576: NARROWER than '..Said'. Prove '..Said' where nothing that the law and all that it calls make is longer than what came in: it says more and counts as full. Else prove '..UptoSaid'. A law counts once. -/
mutual
def uptoBulk {H : Type} : DataW H → Nat
  | .lit (.string bytes) => bytes.length + 1
  | .lit _ => 1
  | .nil => 1
  | .ptr d => uptoBulk d + 1
  | .slice elems spare => uptoBulkAll elems + uptoBulkAll spare + 1
  | .agg parts => uptoBulkAll parts + 1
  | .iface _ d => uptoBulk d + 1
  | .map entries => uptoBulkEntries entries + 1
  | .held _ => 1
def uptoBulkAll {H : Type} : List (DataW H) → Nat
  | [] => 0
  | d :: r => uptoBulk d + uptoBulkAll r
def uptoBulkEntries {H : Type} : List (Lit × DataW H) → Nat
  | [] => 0
  | x :: r => uptoBulkEntry x + uptoBulkEntries r
def uptoBulkEntry {H : Type} : Lit × DataW H → Nat
  | (.string bytes, d) => bytes.length + uptoBulk d + 1
  | (_, d) => uptoBulk d + 1
 end
def uptoSmall : (H : Type) → List (DataW H) → Bool := fun _ ds => decide (uptoBulkAll ds ≤ 1048576)
def OpenSpec.upto (s : _root_.Go.ChangeSpec) : _root_.Go.OpenSpec := { _root_.Go.OpenSpec.ofChange s with cond := some uptoSmall }

/-- 'laws.FnExactPpuOk', WHERE WHAT IT READS IS OF BULK AT MOST 1048576: true; the input reads as it did. -/
def fnExactPpuOkUptoRow : OpenClaim := { program := "ytpaedkefmebjjao", sum := "64c0d707bfd71754ffa5cbdab47a52deba97e49cfc0de325146ddda974c6afd0", func := "loop.example/g00231/laws.FnExactPpuOk", spec := "fnExactPpuOk", apart := false, narrowed := true }
def FnExactPpuOkUptoSaid : Prop := fnExactPpuOkUptoRow.holds Try.pinned (OpenSpec.upto fnExactPpuOkSpec)

/-- 'laws.FnExactPpuNew', WHERE WHAT IT READS IS OF BULK AT MOST 1048576: true; the input reads as it did. -/
def fnExactPpuNewUptoRow : OpenClaim := { program := "ytpaedkefmebjjao", sum := "64c0d707bfd71754ffa5cbdab47a52deba97e49cfc0de325146ddda974c6afd0", func := "loop.example/g00231/laws.FnExactPpuNew", spec := "fnExactPpuNew", apart := false, narrowed := true }
def FnExactPpuNewUptoSaid : Prop := fnExactPpuNewUptoRow.holds Try.pinned (OpenSpec.upto fnExactPpuNewSpec)

/-- 'laws.FnExactDot', WHERE WHAT IT READS IS OF BULK AT MOST 1048576: true; the input reads as it did. -/
def fnExactDotUptoRow : OpenClaim := { program := "ytpaedkefmebjjao", sum := "64c0d707bfd71754ffa5cbdab47a52deba97e49cfc0de325146ddda974c6afd0", func := "loop.example/g00231/laws.FnExactDot", spec := "fnExactDot", unfollowed := true, recurses := true, apart := false, narrowed := true }
def FnExactDotUptoSaid : Prop := fnExactDotUptoRow.holds Try.pinned (OpenSpec.upto fnExactDotSpec)

/-- 'laws.FnExactPpuTick', WHERE WHAT IT READS IS OF BULK AT MOST 1048576: true; the input reads as it did. -/
def fnExactPpuTickUptoRow : OpenClaim := { program := "ytpaedkefmebjjao", sum := "64c0d707bfd71754ffa5cbdab47a52deba97e49cfc0de325146ddda974c6afd0", func := "loop.example/g00231/laws.FnExactPpuTick", spec := "fnExactPpuTick", unfollowed := true, recurses := true, apart := false, narrowed := true }
def FnExactPpuTickUptoSaid : Prop := fnExactPpuTickUptoRow.holds Try.pinned (OpenSpec.upto fnExactPpuTickSpec)

/-- 'laws.FnExactPpuWrite', WHERE WHAT IT READS IS OF BULK AT MOST 1048576: true; the input reads as it did. -/
def fnExactPpuWriteUptoRow : OpenClaim := { program := "ytpaedkefmebjjao", sum := "64c0d707bfd71754ffa5cbdab47a52deba97e49cfc0de325146ddda974c6afd0", func := "loop.example/g00231/laws.FnExactPpuWrite", spec := "fnExactPpuWrite", apart := false, narrowed := true }
def FnExactPpuWriteUptoSaid : Prop := fnExactPpuWriteUptoRow.holds Try.pinned (OpenSpec.upto fnExactPpuWriteSpec)

/-- 'laws.FnExactPpuRead', WHERE WHAT IT READS IS OF BULK AT MOST 1048576: true; the input reads as it did. -/
def fnExactPpuReadUptoRow : OpenClaim := { program := "ytpaedkefmebjjao", sum := "64c0d707bfd71754ffa5cbdab47a52deba97e49cfc0de325146ddda974c6afd0", func := "loop.example/g00231/laws.FnExactPpuRead", spec := "fnExactPpuRead", apart := false, narrowed := true }
def FnExactPpuReadUptoSaid : Prop := fnExactPpuReadUptoRow.holds Try.pinned (OpenSpec.upto fnExactPpuReadSpec)

end Rows
end Go.Proofs.Ytpaedkefmebjjao
