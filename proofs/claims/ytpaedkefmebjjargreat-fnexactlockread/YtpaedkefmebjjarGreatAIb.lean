/-
  The program's chapter 10 by its contracts: what a cycle turns, through a pointer.
-/
import Derived.Test.YtpaedkefmebjjarGreatAIa
namespace Go.Proofs.YtpaedkefmebjjarGreat
set_option linter.unusedVariables false
set_option linter.unusedSimpArgs false
open Go.ChangeShapes Go.WideShapes Go.ChangeAt Go.RowKit Go.Sort
theorem apuSounds (w : World) (z : Nat) (T P C B L : Int) (S Q : Bool) (hb : w.heap[z]? = some (.cells #[.int .i64 T, .int .i64 P, .int .i64 C, .int .i64 B, .int .i64 L, .bool S, .bool Q] 45 (0, 0))) (b : Bool) (h : decide (0 < L) = b) : Calls Tryz.prog 121 #[.pointer (some ⟨z, 0, none⟩)] w fun e w' => e = .returned (.bool b) ∧ w' = w := by
  have hc := boxC hb
  have HH := hide h
  clear h hb
  go_enter Tryz.func121, Tryz.ntmps121
  go_wp2
  go_ret
  exact ⟨ret_bool HH.out, rfl⟩
def beatL (L : Int) : Int := if 0 < L then L - 1 else L
def beatQ (L : Int) (S Q : Bool) : Bool := if 0 < L then Q || (decide (L - 1 = 0) && S) else Q
end Go.Proofs.YtpaedkefmebjjarGreat
