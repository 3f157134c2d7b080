/-
  No cell of these rows narrows 'for every input' (looked for: loops, veiled, ifaces, maps, wideKeys, modest, calm, conditions, laid).
  DERIVED. THE GIVEN ROWS OF THIS SEAT. 2 by the template 'for every input the law returns true; each argument reads behind the call as it read before'; 0 by the template 'total and deterministic' (their statements: YtpaedkefmebjjatTotals.lean).
  GIVEN WITH THE SEED: the statements are not yours to turn. If you find one false, say at which input.
  Laid BY PROGRAM, IN A SANDBOX (cutbox-rows.mjs): the forced cells as the released guide's own fill.sh prints them over the translation 488b203ce59d4a75… (all of the seat's roots in one cut). By AI agents, Wed Nov 11 2026. No macro, syntax, notation, axiom, sorry.
-/
import Derived.Test.YtpaedkefmebjjatChecked
import GoSem.Claim
import GoSem.ClaimJoined
import GoSem.ClaimMapViews
import Derived.JoinedTies
import Derived.KernelRfl
namespace Go.Proofs.Ytpaedkefmebjjat
/- THE CELL 'sum', in the pinned program and in every row, IS THE sha256 OF THE DUMP (.gsa) THAT YtpaedkefmebjjatProg.lean LOADS. Nothing in Lean hashes anything: it is a label: what it is worth is what the hold of that sum in a sandbox is worth. -/
noncomputable def Try.pinned : Pinned := { name := "ytpaedkefmebjjat", sum := "488b203ce59d4a7584741cf69ad1f8ce8701aeace30f4029df72c0f4f329c8ae", checked := Try.checked }
namespace Rows
def none {H : Type} : Left H := { results := [], args := [] }

/-- 'laws.FnExactSoundOk': WHATEVER THE INPUT: true; the input reads as it did. -/
def fnExactSoundOkSpec : ChangeSpec := { name := "fnExactSoundOk", fn := fun _ => fun
  | [d] => { results := [.lit (.bool true)], args := [d] }
  | _ => none }
def fnExactSoundOkRow : OpenClaim := { program := "ytpaedkefmebjjat", sum := "488b203ce59d4a7584741cf69ad1f8ce8701aeace30f4029df72c0f4f329c8ae", func := "loop.example/g00231/laws.FnExactSoundOk", spec := "fnExactSoundOk", apart := false }
def FnExactSoundOkSaid : Prop := fnExactSoundOkRow.holds Try.pinned (OpenSpec.ofChange fnExactSoundOkSpec)

/-- ITS FALSE NEIGHBOUR: 'it returns false'. Refute it at one input. -/
def fnExactSoundOkWrong : ChangeSpec := { name := "fnExactSoundOk", fn := fun _ => fun
  | [d] => { results := [.lit (.bool false)], args := [d] }
  | _ => none }
def FnExactSoundOkWrongFalsely : Prop := fnExactSoundOkRow.holds Try.pinned (OpenSpec.ofChange fnExactSoundOkWrong)

/-- 'laws.FnExactSplitOk': WHATEVER THE INPUT: true; the input reads as it did. -/
def fnExactSplitOkSpec : ChangeSpec := { name := "fnExactSplitOk", fn := fun _ => fun
  | [d] => { results := [.lit (.bool true)], args := [d] }
  | _ => none }
def fnExactSplitOkRow : OpenClaim := { program := "ytpaedkefmebjjat", sum := "488b203ce59d4a7584741cf69ad1f8ce8701aeace30f4029df72c0f4f329c8ae", func := "loop.example/g00231/laws.FnExactSplitOk", spec := "fnExactSplitOk", apart := false }
def FnExactSplitOkSaid : Prop := fnExactSplitOkRow.holds Try.pinned (OpenSpec.ofChange fnExactSplitOkSpec)

/-- ITS FALSE NEIGHBOUR: 'it returns false'. Refute it at one input. -/
def fnExactSplitOkWrong : ChangeSpec := { name := "fnExactSplitOk", fn := fun _ => fun
  | [d] => { results := [.lit (.bool false)], args := [d] }
  | _ => none }
def FnExactSplitOkWrongFalsely : Prop := fnExactSplitOkRow.holds Try.pinned (OpenSpec.ofChange fnExactSplitOkWrong)

/- THE SECOND FORM. 'bulk': how many values and letters a reading holds, each counted each time it is reached (what is shared counts as often as it is met; a slice's spare places count too). A statement '..UptoSaid' is the law's where the arguments, and the package variables that the reading takes, are together of bulk at most 1048576: NARROWER than '..Said'. Prove '..Said' where nothing that the law and all that it calls make is longer than what came in: it says more and counts as full. Else prove '..UptoSaid'. A law counts once. -/
mutual
def uptoBulk {H : Type} : DataW H → Nat
  | .lit (.string bytes) => bytes.length + 1
  | .lit _ => 1
  | .nil => 1
  | .ptr d => uptoBulk d + 1
  | .slice elems spare => uptoBulkAll elems + uptoBulkAll spare + 1
  | .agg parts => uptoBulkAll parts + 1
  | .iface _ d => uptoBulk d + 1
  | .map entries => uptoBulkEntries entries + 1
  | .held _ => 1
def uptoBulkAll {H : Type} : List (DataW H) → Nat
  | [] => 0
  | d :: r => uptoBulk d + uptoBulkAll r
def uptoBulkEntries {H : Type} : List (Lit × DataW H) → Nat
  | [] => 0
  | x :: r => uptoBulkEntry x + uptoBulkEntries r
def uptoBulkEntry {H : Type} : Lit × DataW H → Nat
  | (.string bytes, d) => bytes.length + uptoBulk d + 1
  | (_, d) => uptoBulk d + 1
 end
def uptoSmall : (H : Type) → List (DataW H) → Bool := fun _ ds => decide (uptoBulkAll ds ≤ 1048576)
def OpenSpec.upto (s : _root_.Go.ChangeSpec) : _root_.Go.OpenSpec := { _root_.Go.OpenSpec.ofChange s with cond := some uptoSmall }

/-- 'laws.FnExactSoundOk', WHERE WHAT IT READS IS OF BULK AT MOST 1048576: true; the input reads as it did. -/
def fnExactSoundOkUptoRow : OpenClaim := { program := "ytpaedkefmebjjat", sum := "488b203ce59d4a7584741cf69ad1f8ce8701aeace30f4029df72c0f4f329c8ae", func := "loop.example/g00231/laws.FnExactSoundOk", spec := "fnExactSoundOk", apart := false, narrowed := true }
def FnExactSoundOkUptoSaid : Prop := fnExactSoundOkUptoRow.holds Try.pinned (OpenSpec.upto fnExactSoundOkSpec)

/-- 'laws.FnExactSplitOk', WHERE WHAT IT READS IS OF BULK AT MOST 1048576: true; the input reads as it did. -/
def fnExactSplitOkUptoRow : OpenClaim := { program := "ytpaedkefmebjjat", sum := "488b203ce59d4a7584741cf69ad1f8ce8701aeace30f4029df72c0f4f329c8ae", func := "loop.example/g00231/laws.FnExactSplitOk", spec := "fnExactSplitOk", apart := false, narrowed := true }
def FnExactSplitOkUptoSaid : Prop := fnExactSplitOkUptoRow.holds Try.pinned (OpenSpec.upto fnExactSplitOkSpec)

end Rows
end Go.Proofs.Ytpaedkefmebjjat
