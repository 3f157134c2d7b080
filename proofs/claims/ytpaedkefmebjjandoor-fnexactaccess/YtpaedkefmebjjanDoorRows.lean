/-
  NARROWER THAN 'FOR EVERY INPUT', by the rows' own cells (each row's printed sentence says how): FnExactFetch: laid · FnExactAccess: laid · FnExactExec: laid.
  DERIVED. THE GIVEN ROWS OF THIS SEAT. 3 by the template 'for every input the law returns true; each argument reads behind the call as it read before'; 0 by the template 'total and deterministic' (their statements: YtpaedkefmebjjanDoorTotals.lean).
  GIVEN WITH THE SEED: the statements are not yours to turn. If you find one false, say at which input.
  Laid BY PROGRAM, IN A SANDBOX (cutbox-rows.mjs): the forced cells as the released guide's own fill.sh prints them over the translation 596dc399a3a94fbd… (all of the seat's roots in one cut). By AI agents, Wed Nov 11 2026. No macro, syntax, notation, axiom, sorry.
-/
import Derived.Test.YtpaedkefmebjjanDoorChecked
import GoSem.Claim
import GoSem.ClaimJoined
import GoSem.ClaimMapViews
import Derived.JoinedTies
import Derived.KernelRfl
namespace Go.Proofs.YtpaedkefmebjjanDoor
/- THE CELL 'sum', in the pinned program and in every row, IS THE sha256 OF THE DUMP (.gsa) THAT YtpaedkefmebjjanDoorProg.lean LOADS. Nothing in Lean hashes anything: it is a label: what it is worth is what the hold of that sum in a sandbox is worth. -/
noncomputable def Tryd.pinned : Pinned := { name := "ytpaedkefmebjjandoor", sum := "596dc399a3a94fbd91e44a978f7d42d3b4aa0dddda1631a88e98ddf04ac9abc4", checked := Tryd.checked }
namespace Rows
def none {H : Type} : Left H := { results := [], args := [] }

/- WHAT THE LISTED PACKAGE-LEVEL VARIABLES READ AS WHEN THE CALL BEGINS. Each datum BY PROGRAM (the guide's laid-datum.mjs) off the statement by which the dump's own 'gosem.cut.vars' lays the variable. In a bare row this is a premise. The card (YtpaedkefmebjjanDoorCards.lean) ties it to the program's text. -/
def laid_loop_example_g00231_impl_opRows {H : Type} : DataW H := .agg [.agg [.lit (.string [110, 111, 112]), .lit (.int .i64 1), .lit (.int .i64 2), .lit (.int .i64 0)], .agg [.lit (.string [108, 100, 105]), .lit (.int .i64 2), .lit (.int .i64 2), .lit (.int .i64 0)], .agg [.lit (.string [108, 100, 97]), .lit (.int .i64 3), .lit (.int .i64 4), .lit (.int .i64 1)], .agg [.lit (.string [115, 116, 97]), .lit (.int .i64 3), .lit (.int .i64 4), .lit (.int .i64 2)], .agg [.lit (.string [97, 100, 105]), .lit (.int .i64 2), .lit (.int .i64 2), .lit (.int .i64 0)], .agg [.lit (.string [115, 98, 105]), .lit (.int .i64 2), .lit (.int .i64 2), .lit (.int .i64 0)], .agg [.lit (.string [97, 110, 105]), .lit (.int .i64 2), .lit (.int .i64 2), .lit (.int .i64 0)], .agg [.lit (.string [111, 114, 105]), .lit (.int .i64 2), .lit (.int .i64 2), .lit (.int .i64 0)], .agg [.lit (.string [120, 114, 105]), .lit (.int .i64 2), .lit (.int .i64 2), .lit (.int .i64 0)], .agg [.lit (.string [99, 112, 105]), .lit (.int .i64 2), .lit (.int .i64 2), .lit (.int .i64 0)], .agg [.lit (.string [116, 97, 120]), .lit (.int .i64 1), .lit (.int .i64 2), .lit (.int .i64 0)], .agg [.lit (.string [116, 120, 97]), .lit (.int .i64 1), .lit (.int .i64 2), .lit (.int .i64 0)], .agg [.lit (.string [105, 110, 120]), .lit (.int .i64 1), .lit (.int .i64 2), .lit (.int .i64 0)], .agg [.lit (.string [100, 101, 120]), .lit (.int .i64 1), .lit (.int .i64 2), .lit (.int .i64 0)], .agg [.lit (.string [108, 97, 120]), .lit (.int .i64 3), .lit (.int .i64 4), .lit (.int .i64 1)], .agg [.lit (.string [115, 97, 120]), .lit (.int .i64 3), .lit (.int .i64 5), .lit (.int .i64 2)], .agg [.lit (.string [98, 110, 101]), .lit (.int .i64 3), .lit (.int .i64 3), .lit (.int .i64 0)], .agg [.lit (.string [98, 101, 113]), .lit (.int .i64 3), .lit (.int .i64 3), .lit (.int .i64 0)], .agg [.lit (.string [98, 99, 115]), .lit (.int .i64 3), .lit (.int .i64 3), .lit (.int .i64 0)], .agg [.lit (.string [106, 109, 112]), .lit (.int .i64 3), .lit (.int .i64 3), .lit (.int .i64 0)], .agg [.lit (.string [106, 115, 114]), .lit (.int .i64 3), .lit (.int .i64 6), .lit (.int .i64 0)], .agg [.lit (.string [114, 116, 115]), .lit (.int .i64 1), .lit (.int .i64 6), .lit (.int .i64 0)], .agg [.lit (.string [112, 104, 97]), .lit (.int .i64 1), .lit (.int .i64 3), .lit (.int .i64 0)], .agg [.lit (.string [112, 108, 97]), .lit (.int .i64 1), .lit (.int .i64 4), .lit (.int .i64 0)], .agg [.lit (.string [114, 116, 105]), .lit (.int .i64 1), .lit (.int .i64 6), .lit (.int .i64 0)], .agg [.lit (.string [115, 101, 105]), .lit (.int .i64 1), .lit (.int .i64 2), .lit (.int .i64 0)], .agg [.lit (.string [99, 108, 105]), .lit (.int .i64 1), .lit (.int .i64 2), .lit (.int .i64 0)], .agg [.lit (.string [115, 101, 99]), .lit (.int .i64 1), .lit (.int .i64 2), .lit (.int .i64 0)], .agg [.lit (.string [99, 108, 99]), .lit (.int .i64 1), .lit (.int .i64 2), .lit (.int .i64 0)], .agg [.lit (.string [97, 100, 97]), .lit (.int .i64 3), .lit (.int .i64 4), .lit (.int .i64 1)]]

/-- 'laws.FnExactFetch': WHATEVER THE INPUT: true; the input reads as it did. -/
def fnExactFetchSpec : ChangeSpec := { name := "fnExactFetch", vars := ["loop.example/g00231/impl.opRows"], fn := fun _ => fun
  | [d1, d2, d3, g1] => { results := [.lit (.bool true)], args := [d1, d2, d3], vars := [g1] }
  | _ => none }
def fnExactFetchRow : OpenClaim := { program := "ytpaedkefmebjjandoor", sum := "596dc399a3a94fbd91e44a978f7d42d3b4aa0dddda1631a88e98ddf04ac9abc4", func := "loop.example/g00231/laws.FnExactFetch", spec := "fnExactFetch", unfollowed := true, recurses := true, named := ["loop.example/g00231/impl.opRows"], apart := false, laid := [("loop.example/g00231/impl.opRows", laid_loop_example_g00231_impl_opRows)] }
def FnExactFetchSaid : Prop := fnExactFetchRow.holds Tryd.pinned (OpenSpec.ofChange fnExactFetchSpec)

/-- ITS FALSE NEIGHBOUR: 'it returns false'. Refute it at one input. -/
def fnExactFetchWrong : ChangeSpec := { name := "fnExactFetch", vars := ["loop.example/g00231/impl.opRows"], fn := fun _ => fun
  | [d1, d2, d3, g1] => { results := [.lit (.bool false)], args := [d1, d2, d3], vars := [g1] }
  | _ => none }
def FnExactFetchWrongFalsely : Prop := fnExactFetchRow.holds Tryd.pinned (OpenSpec.ofChange fnExactFetchWrong)

/-- 'laws.FnExactAccess': WHATEVER THE INPUT: true; the input reads as it did. -/
def fnExactAccessSpec : ChangeSpec := { name := "fnExactAccess", vars := ["loop.example/g00231/impl.opRows"], fn := fun _ => fun
  | [d1, d2, g1] => { results := [.lit (.bool true)], args := [d1, d2], vars := [g1] }
  | _ => none }
def fnExactAccessRow : OpenClaim := { program := "ytpaedkefmebjjandoor", sum := "596dc399a3a94fbd91e44a978f7d42d3b4aa0dddda1631a88e98ddf04ac9abc4", func := "loop.example/g00231/laws.FnExactAccess", spec := "fnExactAccess", named := ["loop.example/g00231/impl.opRows"], apart := false, laid := [("loop.example/g00231/impl.opRows", laid_loop_example_g00231_impl_opRows)] }
def FnExactAccessSaid : Prop := fnExactAccessRow.holds Tryd.pinned (OpenSpec.ofChange fnExactAccessSpec)

/-- ITS FALSE NEIGHBOUR: 'it returns false'. Refute it at one input. -/
def fnExactAccessWrong : ChangeSpec := { name := "fnExactAccess", vars := ["loop.example/g00231/impl.opRows"], fn := fun _ => fun
  | [d1, d2, g1] => { results := [.lit (.bool false)], args := [d1, d2], vars := [g1] }
  | _ => none }
def FnExactAccessWrongFalsely : Prop := fnExactAccessRow.holds Tryd.pinned (OpenSpec.ofChange fnExactAccessWrong)

/-- 'laws.FnExactExec': WHATEVER THE INPUT: true; the input reads as it did. -/
def fnExactExecSpec : ChangeSpec := { name := "fnExactExec", vars := ["loop.example/g00231/impl.opRows"], fn := fun _ => fun
  | [d1, d2, d3, d4, g1] => { results := [.lit (.bool true)], args := [d1, d2, d3, d4], vars := [g1] }
  | _ => none }
def fnExactExecRow : OpenClaim := { program := "ytpaedkefmebjjandoor", sum := "596dc399a3a94fbd91e44a978f7d42d3b4aa0dddda1631a88e98ddf04ac9abc4", func := "loop.example/g00231/laws.FnExactExec", spec := "fnExactExec", unfollowed := true, recurses := true, named := ["loop.example/g00231/impl.opRows"], apart := false, laid := [("loop.example/g00231/impl.opRows", laid_loop_example_g00231_impl_opRows)] }
def FnExactExecSaid : Prop := fnExactExecRow.holds Tryd.pinned (OpenSpec.ofChange fnExactExecSpec)

/-- ITS FALSE NEIGHBOUR: 'it returns false'. Refute it at one input. -/
def fnExactExecWrong : ChangeSpec := { name := "fnExactExec", vars := ["loop.example/g00231/impl.opRows"], fn := fun _ => fun
  | [d1, d2, d3, d4, g1] => { results := [.lit (.bool false)], args := [d1, d2, d3, d4], vars := [g1] }
  | _ => none }
def FnExactExecWrongFalsely : Prop := fnExactExecRow.holds Tryd.pinned (OpenSpec.ofChange fnExactExecWrong)

/- THE SECOND FORM. 'bulk': how many values and letters a reading holds, each counted each time it is reached (what is shared counts as often as it is met; a slice's spare places count too). A statement '..UptoSaid' is the law's where the arguments, and the package variables that the reading takes, are together of bulk at most 1048576: NARROWER than '..Said'. Prove '..Said' where nothing that the law and all that it calls make is longer than what came in: it says more and counts as full. Else prove '..UptoSaid'. A law counts once. -/
mutual
def uptoBulk {H : Type} : DataW H → Nat
  | .lit (.string bytes) => bytes.length + 1
  | .lit _ => 1
  | .nil => 1
  | .ptr d => uptoBulk d + 1
  | .slice elems spare => uptoBulkAll elems + uptoBulkAll spare + 1
  | .agg parts => uptoBulkAll parts + 1
  | .iface _ d => uptoBulk d + 1
  | .map entries => uptoBulkEntries entries + 1
  | .held _ => 1
def uptoBulkAll {H : Type} : List (DataW H) → Nat
  | [] => 0
  | d :: r => uptoBulk d + uptoBulkAll r
def uptoBulkEntries {H : Type} : List (Lit × DataW H) → Nat
  | [] => 0
  | x :: r => uptoBulkEntry x + uptoBulkEntries r
def uptoBulkEntry {H : Type} : Lit × DataW H → Nat
  | (.string bytes, d) => bytes.length + uptoBulk d + 1
  | (_, d) => uptoBulk d + 1
 end
def uptoSmall : (H : Type) → List (DataW H) → Bool := fun _ ds => decide (uptoBulkAll ds ≤ 1048576)
def OpenSpec.upto (s : _root_.Go.ChangeSpec) : _root_.Go.OpenSpec := { _root_.Go.OpenSpec.ofChange s with cond := some uptoSmall }

/-- 'laws.FnExactFetch', WHERE WHAT IT READS IS OF BULK AT MOST 1048576: true; the input reads as it did. -/
def fnExactFetchUptoRow : OpenClaim := { program := "ytpaedkefmebjjandoor", sum := "596dc399a3a94fbd91e44a978f7d42d3b4aa0dddda1631a88e98ddf04ac9abc4", func := "loop.example/g00231/laws.FnExactFetch", spec := "fnExactFetch", unfollowed := true, recurses := true, named := ["loop.example/g00231/impl.opRows"], apart := false, laid := [("loop.example/g00231/impl.opRows", laid_loop_example_g00231_impl_opRows)], narrowed := true }
def FnExactFetchUptoSaid : Prop := fnExactFetchUptoRow.holds Tryd.pinned (OpenSpec.upto fnExactFetchSpec)

/-- 'laws.FnExactAccess', WHERE WHAT IT READS IS OF BULK AT MOST 1048576: true; the input reads as it did. -/
def fnExactAccessUptoRow : OpenClaim := { program := "ytpaedkefmebjjandoor", sum := "596dc399a3a94fbd91e44a978f7d42d3b4aa0dddda1631a88e98ddf04ac9abc4", func := "loop.example/g00231/laws.FnExactAccess", spec := "fnExactAccess", named := ["loop.example/g00231/impl.opRows"], apart := false, laid := [("loop.example/g00231/impl.opRows", laid_loop_example_g00231_impl_opRows)], narrowed := true }
def FnExactAccessUptoSaid : Prop := fnExactAccessUptoRow.holds Tryd.pinned (OpenSpec.upto fnExactAccessSpec)

/-- 'laws.FnExactExec', WHERE WHAT IT READS IS OF BULK AT MOST 1048576: true; the input reads as it did. -/
def fnExactExecUptoRow : OpenClaim := { program := "ytpaedkefmebjjandoor", sum := "596dc399a3a94fbd91e44a978f7d42d3b4aa0dddda1631a88e98ddf04ac9abc4", func := "loop.example/g00231/laws.FnExactExec", spec := "fnExactExec", unfollowed := true, recurses := true, named := ["loop.example/g00231/impl.opRows"], apart := false, laid := [("loop.example/g00231/impl.opRows", laid_loop_example_g00231_impl_opRows)], narrowed := true }
def FnExactExecUptoSaid : Prop := fnExactExecUptoRow.holds Tryd.pinned (OpenSpec.upto fnExactExecSpec)

end Rows
end Go.Proofs.YtpaedkefmebjjanDoor
