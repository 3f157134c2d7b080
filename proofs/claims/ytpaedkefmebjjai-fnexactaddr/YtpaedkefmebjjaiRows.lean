/-
  No cell of these rows narrows 'for every input' (looked for: loops, veiled, ifaces, maps, wideKeys, modest, calm, conditions, laid).
  DERIVED. THE GIVEN ROWS OF THIS SEAT. 5 by the template 'for every input the law returns true; each argument reads behind the call as it read before'; 0 by the template 'total and deterministic' (their statements: YtpaedkefmebjjaiTotals.lean).
  GIVEN WITH THE SEED: the statements are not yours to turn. If you find one false, say at which input.
  Laid BY PROGRAM, IN A SANDBOX (cutbox-rows.mjs): the forced cells as the released guide's own fill.sh prints them over the translation fe150708d970af5e… (all of the seat's roots in one cut). By AI agents, Wed Nov 11 2026. No macro, syntax, notation, axiom, sorry.
-/
import Derived.Test.YtpaedkefmebjjaiChecked
import GoSem.Claim
import GoSem.ClaimJoined
import GoSem.ClaimMapViews
import Derived.JoinedTies
import Derived.KernelRfl
namespace Go.Proofs.Ytpaedkefmebjjai
/- THE CELL 'sum', in the pinned program and in every row, IS THE sha256 OF THE DUMP (.gsa) THAT YtpaedkefmebjjaiProg.lean LOADS. Nothing in Lean hashes anything: it is a label: what it is worth is what the hold of that sum in a sandbox is worth. -/
noncomputable def Try.pinned : Pinned := { name := "ytpaedkefmebjjai", sum := "fe150708d970af5e8ec8c93d832ce44ecbc63763014d49a451f475c3b4e96110", checked := Try.checked }
namespace Rows
def none {H : Type} : Left H := { results := [], args := [] }

/-- 'laws.FnExactByte': WHATEVER THE INPUT: true; the input reads as it did. -/
def fnExactByteSpec : ChangeSpec := { name := "fnExactByte", fn := fun _ => fun
  | [d] => { results := [.lit (.bool true)], args := [d] }
  | _ => none }
def fnExactByteRow : OpenClaim := { program := "ytpaedkefmebjjai", sum := "fe150708d970af5e8ec8c93d832ce44ecbc63763014d49a451f475c3b4e96110", func := "loop.example/g00231/laws.FnExactByte", spec := "fnExactByte", apart := false }
def FnExactByteSaid : Prop := fnExactByteRow.holds Try.pinned (OpenSpec.ofChange fnExactByteSpec)

/-- ITS FALSE NEIGHBOUR: 'it returns false'. Refute it at one input. -/
def fnExactByteWrong : ChangeSpec := { name := "fnExactByte", fn := fun _ => fun
  | [d] => { results := [.lit (.bool false)], args := [d] }
  | _ => none }
def FnExactByteWrongFalsely : Prop := fnExactByteRow.holds Try.pinned (OpenSpec.ofChange fnExactByteWrong)

/-- 'laws.FnExactAddr': WHATEVER THE INPUT: true; the input reads as it did. -/
def fnExactAddrSpec : ChangeSpec := { name := "fnExactAddr", fn := fun _ => fun
  | [d] => { results := [.lit (.bool true)], args := [d] }
  | _ => none }
def fnExactAddrRow : OpenClaim := { program := "ytpaedkefmebjjai", sum := "fe150708d970af5e8ec8c93d832ce44ecbc63763014d49a451f475c3b4e96110", func := "loop.example/g00231/laws.FnExactAddr", spec := "fnExactAddr", apart := false }
def FnExactAddrSaid : Prop := fnExactAddrRow.holds Try.pinned (OpenSpec.ofChange fnExactAddrSpec)

/-- ITS FALSE NEIGHBOUR: 'it returns false'. Refute it at one input. -/
def fnExactAddrWrong : ChangeSpec := { name := "fnExactAddr", fn := fun _ => fun
  | [d] => { results := [.lit (.bool false)], args := [d] }
  | _ => none }
def FnExactAddrWrongFalsely : Prop := fnExactAddrRow.holds Try.pinned (OpenSpec.ofChange fnExactAddrWrong)

/-- 'laws.FnExactAdd8': WHATEVER THE INPUT: true; the input reads as it did. -/
def fnExactAdd8Spec : ChangeSpec := { name := "fnExactAdd8", fn := fun _ => fun
  | [d1, d2, d3] => { results := [.lit (.bool true)], args := [d1, d2, d3] }
  | _ => none }
def fnExactAdd8Row : OpenClaim := { program := "ytpaedkefmebjjai", sum := "fe150708d970af5e8ec8c93d832ce44ecbc63763014d49a451f475c3b4e96110", func := "loop.example/g00231/laws.FnExactAdd8", spec := "fnExactAdd8", apart := false }
def FnExactAdd8Said : Prop := fnExactAdd8Row.holds Try.pinned (OpenSpec.ofChange fnExactAdd8Spec)

/-- ITS FALSE NEIGHBOUR: 'it returns false'. Refute it at one input. -/
def fnExactAdd8Wrong : ChangeSpec := { name := "fnExactAdd8", fn := fun _ => fun
  | [d1, d2, d3] => { results := [.lit (.bool false)], args := [d1, d2, d3] }
  | _ => none }
def FnExactAdd8WrongFalsely : Prop := fnExactAdd8Row.holds Try.pinned (OpenSpec.ofChange fnExactAdd8Wrong)

/-- 'laws.FnExactSub8': WHATEVER THE INPUT: true; the input reads as it did. -/
def fnExactSub8Spec : ChangeSpec := { name := "fnExactSub8", fn := fun _ => fun
  | [d1, d2, d3] => { results := [.lit (.bool true)], args := [d1, d2, d3] }
  | _ => none }
def fnExactSub8Row : OpenClaim := { program := "ytpaedkefmebjjai", sum := "fe150708d970af5e8ec8c93d832ce44ecbc63763014d49a451f475c3b4e96110", func := "loop.example/g00231/laws.FnExactSub8", spec := "fnExactSub8", apart := false }
def FnExactSub8Said : Prop := fnExactSub8Row.holds Try.pinned (OpenSpec.ofChange fnExactSub8Spec)

/-- ITS FALSE NEIGHBOUR: 'it returns false'. Refute it at one input. -/
def fnExactSub8Wrong : ChangeSpec := { name := "fnExactSub8", fn := fun _ => fun
  | [d1, d2, d3] => { results := [.lit (.bool false)], args := [d1, d2, d3] }
  | _ => none }
def FnExactSub8WrongFalsely : Prop := fnExactSub8Row.holds Try.pinned (OpenSpec.ofChange fnExactSub8Wrong)

/-- 'laws.FnExactSigns': WHATEVER THE INPUT: true; the input reads as it did. -/
def fnExactSignsSpec : ChangeSpec := { name := "fnExactSigns", fn := fun _ => fun
  | [d] => { results := [.lit (.bool true)], args := [d] }
  | _ => none }
def fnExactSignsRow : OpenClaim := { program := "ytpaedkefmebjjai", sum := "fe150708d970af5e8ec8c93d832ce44ecbc63763014d49a451f475c3b4e96110", func := "loop.example/g00231/laws.FnExactSigns", spec := "fnExactSigns", apart := false }
def FnExactSignsSaid : Prop := fnExactSignsRow.holds Try.pinned (OpenSpec.ofChange fnExactSignsSpec)

/-- ITS FALSE NEIGHBOUR: 'it returns false'. Refute it at one input. -/
def fnExactSignsWrong : ChangeSpec := { name := "fnExactSigns", fn := fun _ => fun
  | [d] => { results := [.lit (.bool false)], args := [d] }
  | _ => none }
def FnExactSignsWrongFalsely : Prop := fnExactSignsRow.holds Try.pinned (OpenSpec.ofChange fnExactSignsWrong)

/- THE SECOND FORM. 'bulk': how many values and letters a reading holds, each counted each time it is reached (what is shared counts as often as it is met; a slice's spare places count too). A statement '..UptoSaid' is the law's where the arguments, and the package variables that the reading takes, are together of bulk at most 1048576: NARROWER than '..Said'. Prove '..Said' where nothing that the law and all that it calls make is longer than what came in: it says more and counts as full. Else prove '..UptoSaid'. A law counts once. -/
mutual
def uptoBulk {H : Type} : DataW H → Nat
  | .lit (.string bytes) => bytes.length + 1
  | .lit _ => 1
  | .nil => 1
  | .ptr d => uptoBulk d + 1
  | .slice elems spare => uptoBulkAll elems + uptoBulkAll spare + 1
  | .agg parts => uptoBulkAll parts + 1
  | .iface _ d => uptoBulk d + 1
  | .map entries => uptoBulkEntries entries + 1
  | .held _ => 1
def uptoBulkAll {H : Type} : List (DataW H) → Nat
  | [] => 0
  | d :: r => uptoBulk d + uptoBulkAll r
def uptoBulkEntries {H : Type} : List (Lit × DataW H) → Nat
  | [] => 0
  | x :: r => uptoBulkEntry x + uptoBulkEntries r
def uptoBulkEntry {H : Type} : Lit × DataW H → Nat
  | (.string bytes, d) => bytes.length + uptoBulk d + 1
  | (_, d) => uptoBulk d + 1
 end
def uptoSmall : (H : Type) → List (DataW H) → Bool := fun _ ds => decide (uptoBulkAll ds ≤ 1048576)
def OpenSpec.upto (s : _root_.Go.ChangeSpec) : _root_.Go.OpenSpec := { _root_.Go.OpenSpec.ofChange s with cond := some uptoSmall }

/-- 'laws.FnExactByte', WHERE WHAT IT READS IS OF BULK AT MOST 1048576: true; the input reads as it did. -/
def fnExactByteUptoRow : OpenClaim := { program := "ytpaedkefmebjjai", sum := "fe150708d970af5e8ec8c93d832ce44ecbc63763014d49a451f475c3b4e96110", func := "loop.example/g00231/laws.FnExactByte", spec := "fnExactByte", apart := false, narrowed := true }
def FnExactByteUptoSaid : Prop := fnExactByteUptoRow.holds Try.pinned (OpenSpec.upto fnExactByteSpec)

/-- 'laws.FnExactAddr', WHERE WHAT IT READS IS OF BULK AT MOST 1048576: true; the input reads as it did. -/
def fnExactAddrUptoRow : OpenClaim := { program := "ytpaedkefmebjjai", sum := "fe150708d970af5e8ec8c93d832ce44ecbc63763014d49a451f475c3b4e96110", func := "loop.example/g00231/laws.FnExactAddr", spec := "fnExactAddr", apart := false, narrowed := true }
def FnExactAddrUptoSaid : Prop := fnExactAddrUptoRow.holds Try.pinned (OpenSpec.upto fnExactAddrSpec)

/-- 'laws.FnExactAdd8', WHERE WHAT IT READS IS OF BULK AT MOST 1048576: true; the input reads as it did. -/
def fnExactAdd8UptoRow : OpenClaim := { program := "ytpaedkefmebjjai", sum := "fe150708d970af5e8ec8c93d832ce44ecbc63763014d49a451f475c3b4e96110", func := "loop.example/g00231/laws.FnExactAdd8", spec := "fnExactAdd8", apart := false, narrowed := true }
def FnExactAdd8UptoSaid : Prop := fnExactAdd8UptoRow.holds Try.pinned (OpenSpec.upto fnExactAdd8Spec)

/-- 'laws.FnExactSub8', WHERE WHAT IT READS IS OF BULK AT MOST 1048576: true; the input reads as it did. -/
def fnExactSub8UptoRow : OpenClaim := { program := "ytpaedkefmebjjai", sum := "fe150708d970af5e8ec8c93d832ce44ecbc63763014d49a451f475c3b4e96110", func := "loop.example/g00231/laws.FnExactSub8", spec := "fnExactSub8", apart := false, narrowed := true }
def FnExactSub8UptoSaid : Prop := fnExactSub8UptoRow.holds Try.pinned (OpenSpec.upto fnExactSub8Spec)

/-- 'laws.FnExactSigns', WHERE WHAT IT READS IS OF BULK AT MOST 1048576: true; the input reads as it did. -/
def fnExactSignsUptoRow : OpenClaim := { program := "ytpaedkefmebjjai", sum := "fe150708d970af5e8ec8c93d832ce44ecbc63763014d49a451f475c3b4e96110", func := "loop.example/g00231/laws.FnExactSigns", spec := "fnExactSigns", apart := false, narrowed := true }
def FnExactSignsUptoSaid : Prop := fnExactSignsUptoRow.holds Try.pinned (OpenSpec.upto fnExactSignsSpec)

end Rows
end Go.Proofs.Ytpaedkefmebjjai
