/-
  FnPicture: in any Period of a drawn picture unit just one picture is told, of Seen dots.
-/
import Derived.Test.YtpaedkefmebjjagZ9
import Derived.Test.YtpaedkefmebjjagI8
import Derived.Test.YtpaedkefmebjjagV2
namespace Go.Proofs.Ytpaedkefmebjjag
set_option linter.unusedVariables false
set_option linter.unusedSimpArgs false
open Go.ChangeShapes Go.WideShapes Go.ChangeAt Go.RowKit Go.Sort
def toldN (t : Int) (k : Nat) : Int := if (48 - t) % 64 < k then 1 else 0
def toldS (t : Int) (k : Nat) : Int := if (48 - t) % 64 < k then 48 else 0
/-- The picture unit of a loop of ticks: in a block z, right, k cycles behind t. -/
structure PicAt (w W : World) (z : Nat) (t c s ad pl : Int) (n : Nat) (f : Nat → Int) (k : Nat) : Prop where
  ex : ∃ bl a1 x1 a2 x2 m g, W.heap[z]? = some (.cells #[.int .i64 (t + k), .int .i64 c, .int .i64 s, .int .i64 ad, .int .i64 pl, .bool bl, .slice a1 n x1, .slice a2 m x2] 26 (0, 0)) ∧ PpuOn W (fun b => w.heap.size ≤ b ∧ b ≠ z) (.agg #[.int .i64 (t + k), .int .i64 c, .int .i64 s, .int .i64 ad, .int .i64 pl, .bool bl, .slice a1 n x1, .slice a2 m x2]) (t + k) c s ad pl bl n f m g ∧ IsPpu (t + k) c s ad pl n f m g ∧ Below w.heap.size w W
theorem tickedAs_any {ok : Bool} {w W : World} {v u : Value} {t c s ad pl : Int} {bl : Bool} {n : Nat} {f : Nat → Int} {m : Nat} {g : Nat → Int} (H : TickedAs ok w W v u t c s ad pl bl n f m g) : ∃ (t' c' s' ad' pl' : Int) (bl' : Bool) (n' : Nat) (f' : Nat → Int) (m' : Nat) (g' : Nat → Int), Ticked w W v u t' c' s' ad' pl' bl' n' f' m' g' (if ok = true then tlM t m else 0) g ∧ (ok = false → n' = 0) ∧ (ok = true → t' = tkT t) := by
  cases ok
  · exact ⟨_, _, _, _, _, _, _, _, _, _, H, fun _ => rfl, fun h => absurd h (by decide)⟩
  · exact ⟨_, _, _, _, _, _, _, _, _, _, H, fun h => absurd h (by decide), fun _ => rfl⟩
end Go.Proofs.Ytpaedkefmebjjag
